/-
  The law ArenaFinds: no handle was told before.
-/
import Derived.Test.YtdompamilgbnnaaArFB
namespace Go.Proofs.Ytdompamilgbnnaa
open Go.RowKit aT

attribute [local go_sem] Oper.semAt_some

set_option maxRecDepth 100000 in
set_option maxHeartbeats 4000000 in
theorem finds_dup {w3 : World} {D H sl gn : Nat} {a9 a10 a11 : Option Addr} {c9 c10 c11 : Nat} {es : List Ent} (hR : R3 w3 D (.slice a9 es.length c9) (.slice a10 es.length c10) (.slice a11 es.length c11) es) (hB : Box2 w3 H (.int .i64 (sl : Int)) (.int .i64 (gn : Int))) (hN : ∀ (i : Nat) (e : Ent), es[i]? = some e → ¬ (e.slot = sl ∧ e.gen = gn)) (hl60 : es.length ≤ 60)
    {u0 u1 u2 u3 u4 u5 u6 u7 u8 u10 u11 u12 u14 u16 u17 u18 u19 u20 u21 u22 u23 u24 u25 u26 u27 u28 u29 u30 u31 u32 u33 u34 u35 u36 u37 u38 u39 u40 u41 u42 u43 u44 u45 u46 u47 u48 u49 u50 u51 u52 u53 u54 u55 u56 u57 u58 u59 u60 u61 u62 u63 u64 u65 u66 u67 u68 u69 u70 u71 u72 u73 u74 u75 u76 u77 u78 u79 u80 u81 u82 u83 u84 u85 u86 u87 u88 u89 u90 u91 u92 u93 u94 u95 u96 u97 u98 u99 u100 u101 u102 u103 u104 u105 u106 u107 u108 u109 u110 u111 u112 u113 u114 u115 u116 u117 u118 u119 u120 u121 u122 u123 u124 u125 u126 u127 u128 u129 u130 u131 u132 u133 u134 u135 u136 u137 u138 u139 u140 u141 u142 u143 u144 u145 u146 u147 u148 u149 u150 u151 u152 u153 u154 u155 u156 u157 u158 u159 u160 u161 u162 u163 u164 u165 u166 u167 u168 u169 u170 u171 u172 u173 u174 : Value} {Q : Exit → Act → World → Prop}
    (hQ : ∀ ⦃x6 x15 x53 x54 x55 x56 x57 x58 x59 x60 x61 x62 x63 x64 : Value⦄ ⦃wq : World⦄, Ch [] w3 wq → Q .normal { tmps := #[u0, u1, u2, u3, u4, u5, x6, u7, u8, .slice a9 es.length c9, u10, u11, u12, .pointer (some ⟨H, 0, none⟩), u14, x15, u16, u17, u18, u19, u20, u21, u22, u23, u24, u25, u26, u27, u28, u29, u30, u31, u32, u33, u34, u35, u36, u37, u38, u39, u40, u41, u42, u43, u44, u45, u46, u47, u48, u49, u50, u51, u52, x53, x54, x55, x56, x57, x58, x59, x60, x61, x62, x63, x64, u65, u66, u67, u68, u69, u70, u71, u72, u73, u74, u75, u76, u77, u78, u79, u80, u81, u82, u83, u84, u85, u86, u87, u88, u89, u90, u91, u92, u93, u94, u95, u96, u97, u98, u99, u100, u101, u102, u103, u104, u105, u106, u107, u108, u109, u110, u111, u112, u113, u114, u115, u116, u117, u118, u119, u120, u121, u122, u123, u124, u125, u126, u127, u128, u129, u130, u131, u132, u133, u134, u135, u136, u137, u138, u139, u140, u141, u142, u143, u144, u145, u146, u147, u148, u149, u150, u151, u152, u153, u154, u155, u156, u157, u158, u159, u160, u161, u162, u163, u164, u165, u166, u167, u168, u169, u170, u171, u172, u173, u174], defers := [] } wq) :
    Code.wp Try.prog (codeOf [1, 1, 1, 1, 1, 1, 0, 1, 0, 0, 1, 0, 0, 1, 0, 1, 0, 0, 1] (Try.f5.body.getD .skip)) Q { tmps := #[u0, u1, u2, u3, u4, u5, u6, u7, u8, .slice a9 es.length c9, u10, u11, u12, .pointer (some ⟨H, 0, none⟩), u14, .int .i64 0, u16, u17, u18, u19, u20, u21, u22, u23, u24, u25, u26, u27, u28, u29, u30, u31, u32, u33, u34, u35, u36, u37, u38, u39, u40, u41, u42, u43, u44, u45, u46, u47, u48, u49, u50, u51, u52, u53, u54, u55, u56, u57, u58, u59, u60, u61, u62, u63, u64, u65, u66, u67, u68, u69, u70, u71, u72, u73, u74, u75, u76, u77, u78, u79, u80, u81, u82, u83, u84, u85, u86, u87, u88, u89, u90, u91, u92, u93, u94, u95, u96, u97, u98, u99, u100, u101, u102, u103, u104, u105, u106, u107, u108, u109, u110, u111, u112, u113, u114, u115, u116, u117, u118, u119, u120, u121, u122, u123, u124, u125, u126, u127, u128, u129, u130, u131, u132, u133, u134, u135, u136, u137, u138, u139, u140, u141, u142, u143, u144, u145, u146, u147, u148, u149, u150, u151, u152, u153, u154, u155, u156, u157, u158, u159, u160, u161, u162, u163, u164, u165, u166, u167, u168, u169, u170, u171, u172, u173, u174], defers := [] } w3 := by
  have HR := Lib.hid hR
  have HB := Lib.hid hB
  have HN := Lib.hid hN
  have HQ := Lib.hid hQ
  clear hR hB hN hQ
  simp only [codeOf, Try.f5, Option.getD_some]
  go_wp2_with fail
  go_loopw [15] (fun i wr => ∃ j : Nat, j ≤ es.length ∧ i = .int .i64 (j : Int) ∧ Ch [] w3 wr) (fun i _ => es.length - (intOf i).toNat)
  case atStart => exact ⟨0, Nat.zero_le _, rfl, Ch.refl _ _⟩
  case round =>
    obtain ⟨j, hj, rfl, hch⟩ := hrel
    have HCh := Lib.hid hch
    have HRq := Lib.hid (HR.out.ch hch (by simp))
    have hbx := HB.out.ch hch (by simp)
    have b0 := hbx.c0
    have b1 := hbx.c1
    clear hch hbx
    by_cases hlt : j < es.length
    · obtain ⟨e, g9, g10, g11, he, rfl, rfl, rfl, c0, c1, _⟩ := HRq.out.at' hlt
      have hne := HN.out j e he
      have hb0 : (0 : Int) ≤ (j : Int) := by omega
      have hb1 : (j : Int) < (es.length : Int) := by omega
      have ht : ((j : Int)).toNat = j := rfl
      have HL := Lib.hid hlt
      by_cases hs : e.slot = sl
      · have hg : ¬ ((e.gen : Int) = (gn : Int)) := fun h => hne ⟨hs, by omega⟩
        rw [hs] at c0
        generalize e.gen = eg at *
        have hd1 : ((eg : Int) == (gn : Int)) = false := by simpa using hg
        clear hs hne he
        go_wp2_with fail
        go_quiet (fail)
        go_wp2_with fail
        go_roundw
        case rel => exact ⟨j + 1, by have := HL.out; omega, by go_num, HCh.out.drewN _⟩
        case measure => have := HL.out; simp [intOf]; omega
      · have hg : ¬ ((e.slot : Int) = (sl : Int)) := fun h => hs (by omega)
        generalize e.gen = eg at *
        generalize e.slot = el at *
        have hd1 : ((el : Int) == (sl : Int)) = false := by simpa using hg
        clear hs hne he
        go_wp2_with fail
        go_quiet (fail)
        go_wp2_with fail
        go_roundw
        case rel => exact ⟨j + 1, by have := HL.out; omega, by go_num, HCh.out.drewN _⟩
        case measure => have := HL.out; simp [intOf]; omega
    · obtain rfl : j = es.length := by omega
      go_wp2_with fail
      exact HQ.out HCh.out
end Go.Proofs.Ytdompamilgbnnaa

/-
  CallsOnce: a part (fin).
-/
import Derived.Test.YtnnliimjemmekaaCoA
import Derived.Deep.RegionHeld3
import Derived.Deep.CutBlock
namespace Go.Proofs.Ytnnliimjemmekaa
open Go.RowKit Go.Maps Go.BigFrame

attribute [local go_sem] Oper.semAt_some

set_option maxRecDepth 100000 in
set_option maxHeartbeats 4000000 in
theorem once_fin {w3 : World} {X9 X10 X11 n : Nat} {gen : Int} {g : Nat → Int} {t : Nat → Bool} {la : Nat → Int} (hA : Ars w3 X9 X10 X11 t g la) (hn : n ≤ 60) (ht : ∀ k, 1 ≤ k → k ≤ n → 0 < g k → g k ≤ gen - 1 → t k = true) (hge : 0 ≤ gen) (hge2 : gen ≤ 60)
    {u0 u1 u2 u3 u4 u5 u6 u7 u8 u11 u14 u15 u16 u17 u18 u19 u20 u21 u22 u23 u24 u25 u26 u27 u28 u29 u30 u31 u32 u33 u34 u35 u36 u37 u38 u39 u40 u41 u42 u43 u44 u45 u46 u47 u48 u49 u50 u51 u52 u53 u54 u55 u56 u57 u58 u59 u60 u61 u62 u63 u64 u65 u66 u67 u68 u69 u70 u71 u72 u73 u74 u75 u76 u77 u78 u79 u80 u81 u82 u83 u84 u85 u86 u87 u88 u89 u90 u91 u92 u93 u94 u95 u96 u97 u98 u99 u100 u101 u102 u103 u104 u105 u106 u107 u108 u109 u110 u111 u112 u113 u114 u115 u116 u117 u118 u119 u120 u121 u122 u123 u124 u125 u126 u127 u128 u129 u130 u131 u132 u133 u134 u135 u136 u137 u138 u139 u140 u141 u142 u143 u144 u145 u146 u147 u148 u149 u150 u151 u152 u153 u154 u155 u156 u157 u158 u159 u160 u161 u162 u163 u164 u165 u166 u167 u168 u169 u170 u171 u172 u173 u174 u175 u176 u177 u178 u179 u180 : Value} {Q : Exit → Act → World → Prop}
    (hQ : ∀ ⦃x6 x21 x157 x158 x159 x160 x161 x162 x163 x164 x165 x166 x167 x168 x169 x170 x171 x172 x173 x174 x175 x176 x177 x178 x179 : Value⦄ ⦃wq : World⦄, wq = w3 → Q .normal { tmps := #[u0, u1, u2, u3, u4, u5, x6, u7, u8, .pointer (some ⟨X9, 0, none⟩), .pointer (some ⟨X10, 0, none⟩), u11, .int .i64 gen, .int .i64 (n : Int), u14, u15, u16, u17, u18, u19, u20, x21, u22, u23, u24, u25, u26, u27, u28, u29, u30, u31, u32, u33, u34, u35, u36, u37, u38, u39, u40, u41, u42, u43, u44, u45, u46, u47, u48, u49, u50, u51, u52, u53, u54, u55, u56, u57, u58, u59, u60, u61, u62, u63, u64, u65, u66, u67, u68, u69, u70, u71, u72, u73, u74, u75, u76, u77, u78, u79, u80, u81, u82, u83, u84, u85, u86, u87, u88, u89, u90, u91, u92, u93, u94, u95, u96, u97, u98, u99, u100, u101, u102, u103, u104, u105, u106, u107, u108, u109, u110, u111, u112, u113, u114, u115, u116, u117, u118, u119, u120, u121, u122, u123, u124, u125, u126, u127, u128, u129, u130, u131, u132, u133, u134, u135, u136, u137, u138, u139, u140, u141, u142, u143, u144, u145, u146, u147, u148, u149, u150, u151, u152, u153, u154, u155, u156, x157, x158, x159, x160, x161, x162, x163, x164, x165, x166, x167, x168, x169, x170, x171, x172, x173, x174, x175, x176, x177, x178, x179, u180], defers := [] } wq) :
    Code.wp Try.prog (codeOf [1, 1, 1, 1, 1, 1, 1, 0, 1, 1, 1, 1, 0, 1, 1, 1, 1, 1, 1, 1, 1] (Try.f4.body.getD .skip)) Q { tmps := #[u0, u1, u2, u3, u4, u5, u6, u7, u8, .pointer (some ⟨X9, 0, none⟩), .pointer (some ⟨X10, 0, none⟩), u11, .int .i64 gen, .int .i64 (n : Int), u14, u15, u16, u17, u18, u19, u20, u21, u22, u23, u24, u25, u26, u27, u28, u29, u30, u31, u32, u33, u34, u35, u36, u37, u38, u39, u40, u41, u42, u43, u44, u45, u46, u47, u48, u49, u50, u51, u52, u53, u54, u55, u56, u57, u58, u59, u60, u61, u62, u63, u64, u65, u66, u67, u68, u69, u70, u71, u72, u73, u74, u75, u76, u77, u78, u79, u80, u81, u82, u83, u84, u85, u86, u87, u88, u89, u90, u91, u92, u93, u94, u95, u96, u97, u98, u99, u100, u101, u102, u103, u104, u105, u106, u107, u108, u109, u110, u111, u112, u113, u114, u115, u116, u117, u118, u119, u120, u121, u122, u123, u124, u125, u126, u127, u128, u129, u130, u131, u132, u133, u134, u135, u136, u137, u138, u139, u140, u141, u142, u143, u144, u145, u146, u147, u148, u149, u150, u151, u152, u153, u154, u155, u156, u157, u158, u159, u160, u161, u162, u163, u164, u165, u166, u167, u168, u169, u170, u171, u172, u173, u174, u175, u176, u177, u178, u179, u180], defers := [] } w3 := by
  have HQ := Lib.hid hQ
  have HA := Lib.hid hA
  have HTk := Lib.hid ht
  clear hQ hA ht
  simp only [codeOf, Try.f4, Option.getD_some]
  have hwg : IntKind.i64.wrap (gen - 1) = gen - 1 := IntWalk.i64_in _ (by omega)
  go_wp2_with fail
  go_loopw [21] (fun r wr => ∃ m : Nat, m ≤ n ∧ r = .int .i64 ((m : Int) + 1) ∧ wr = w3) (fun r _ => n + 1 - (intOf r).toNat)
  case atStart => exact ⟨0, Nat.zero_le _, rfl, rfl⟩
  case round =>
    obtain ⟨m, hm, rfl, rfl⟩ := hrel
    by_cases hmn : m < n
    · have hle : decide (((m : Int) + 1) ≤ (n : Int)) = true := decide_eq_true (by omega)
      have h0 : (0 : Int) ≤ (m : Int) + 1 := by omega
      have h61 : (m : Int) + 1 < 61 := by omega
      have htn : ((m : Int) + 1).toNat = m + 1 := by omega
      have g9 := HA.out.a9.c (m + 1) (by omega)
      have g10 := HA.out.a10.c (m + 1) (by omega)
      have htk := HTk.out (m + 1) (by omega) (by omega)
      have hw2 : IntKind.i64.wrap ((m : Int) + 1 + 1) = (m : Int) + 1 + 1 := IntWalk.i64_in _ (by omega)
      obtain ⟨gk, hgk⟩ : ∃ y, y = g (m + 1) := ⟨_, rfl⟩
      rw [← hgk] at g10 htk
      have HT := Lib.hid htk
      clear hgk htk
      by_cases hg0 : 0 < gk
      · have d1 : decide (gk > 0) = true := decide_eq_true hg0
        by_cases hg1 : gk ≤ gen - 1
        · have d2 : decide (gk ≤ gen - 1) = true := decide_eq_true hg1
          have e9 : tb t (m + 1) = 1 := by unfold tb; rw [HT.out hg0 hg1]; rfl
          rw [e9] at g9
          clear e9 hg0 hg1
          go_wp2
          go_roundw
          case rel => exact ⟨m + 1, by omega, by go_num, by trivial⟩
          case measure => simp [intOf]; omega
        · have d2 : decide (gk ≤ gen - 1) = false := decide_eq_false hg1
          clear hg0 hg1
          go_wp2
          go_roundw
          case rel => exact ⟨m + 1, by omega, by go_num, by trivial⟩
          case measure => simp [intOf]; omega
      · have d1 : decide (gk > 0) = false := decide_eq_false hg0
        clear hg0
        go_wp2
        go_roundw
        case rel => exact ⟨m + 1, by omega, by go_num, by trivial⟩
        case measure => simp [intOf]; omega
    · have hle : decide (((m : Int) + 1) ≤ (n : Int)) = false := decide_eq_false (by omega)
      go_wp2
      exact HQ.out rfl
end Go.Proofs.Ytnnliimjemmekaa

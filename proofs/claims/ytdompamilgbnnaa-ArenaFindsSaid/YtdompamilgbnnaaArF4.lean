/-
  The law ArenaFinds: each finds its own thing, or nothing.
-/
import Derived.Test.YtdompamilgbnnaaArFB
namespace Go.Proofs.Ytdompamilgbnnaa
open Go.RowKit aT

attribute [local go_sem] Oper.semAt_some

set_option maxRecDepth 100000 in
set_option maxHeartbeats 4000000 in
theorem finds_each {S : Nat} {w w3 : World} {R : Nat} {xs : List (Sl Th)} {a9 a10 a11 : Option Addr} {c9 c10 c11 : Nat} {es : List Ent} (hR : R3 w3 (R + 1) (.slice a9 es.length c9) (.slice a10 es.length c10) (.slice a11 es.length c11) es) (hSt : St S w w3 R xs) (hI : Inv xs es) (hl60 : es.length ≤ 60)
    {u0 u1 u2 u3 u4 u5 u6 u8 u12 u13 u14 u15 u16 u17 u19 u20 u21 u22 u23 u24 u25 u26 u27 u28 u29 u30 u31 u32 u33 u34 u35 u36 u37 u38 u39 u40 u41 u42 u43 u44 u45 u46 u47 u48 u49 u50 u51 u52 u53 u54 u55 u56 u57 u58 u59 u60 u61 u62 u63 u64 u65 u66 u67 u68 u69 u70 u71 u72 u73 u74 u75 u76 u77 u78 u79 u80 u81 u82 u83 u84 u85 u86 u87 u88 u89 u90 u91 u92 u93 u94 u95 u96 u97 u98 u99 u100 u101 u102 u103 u104 u105 u106 u107 u108 u109 u110 u111 u112 u113 u114 u115 u116 u117 u118 u119 u120 u121 u122 u123 u124 u125 u126 u127 u128 u129 u130 u131 u132 u133 u134 u135 u136 u137 u138 u139 u140 u141 u142 u143 u144 u145 u146 u147 u148 u149 u150 u151 u152 u153 u154 u155 u156 u157 u158 u159 u160 u161 u162 u163 u164 u165 u166 u167 u168 u169 u170 u171 u172 u173 u174 : Value} {Q : Exit → Act → World → Prop}
    (hQ : ∀ ⦃x6 x18 x19 x20 x132 x133 x134 x135 x136 x137 x138 x139 x140 x141 x142 x143 x144 x145 x146 x147 x148 x149 x150 x151 x152 x153 x154 x155 x156 x157 x158 x159 x160 x161 x162 x163 x164 x165 x166 x167 x168 x169 x170 x171 x172 x173 : Value⦄ ⦃wq : World⦄, R3 wq (R + 1) (.slice a9 es.length c9) (.slice a10 es.length c10) (.slice a11 es.length c11) es → St S w wq R xs → Q .normal { tmps := #[u0, u1, u2, u3, u4, u5, x6, .pointer (some ⟨R, 0, none⟩), u8, .slice a9 es.length c9, .slice a10 es.length c10, .slice a11 es.length c11, u12, u13, u14, u15, u16, u17, x18, x19, x20, u21, u22, u23, u24, u25, u26, u27, u28, u29, u30, u31, u32, u33, u34, u35, u36, u37, u38, u39, u40, u41, u42, u43, u44, u45, u46, u47, u48, u49, u50, u51, u52, u53, u54, u55, u56, u57, u58, u59, u60, u61, u62, u63, u64, u65, u66, u67, u68, u69, u70, u71, u72, u73, u74, u75, u76, u77, u78, u79, u80, u81, u82, u83, u84, u85, u86, u87, u88, u89, u90, u91, u92, u93, u94, u95, u96, u97, u98, u99, u100, u101, u102, u103, u104, u105, u106, u107, u108, u109, u110, u111, u112, u113, u114, u115, u116, u117, u118, u119, u120, u121, u122, u123, u124, u125, u126, u127, u128, u129, u130, u131, x132, x133, x134, x135, x136, x137, x138, x139, x140, x141, x142, x143, x144, x145, x146, x147, x148, x149, x150, x151, x152, x153, x154, x155, x156, x157, x158, x159, x160, x161, x162, x163, x164, x165, x166, x167, x168, x169, x170, x171, x172, x173, u174], defers := [] } wq) :
    Code.wp Try.prog (codeOf [1, 1, 1, 1, 1, 1, 0, 1, 0, 0, 1, 0, 0, 1, 1, 1, 1] (Try.f5.body.getD .skip)) Q { tmps := #[u0, u1, u2, u3, u4, u5, u6, .pointer (some ⟨R, 0, none⟩), u8, .slice a9 es.length c9, .slice a10 es.length c10, .slice a11 es.length c11, u12, u13, u14, u15, u16, u17, .int .i64 0, u19, u20, u21, u22, u23, u24, u25, u26, u27, u28, u29, u30, u31, u32, u33, u34, u35, u36, u37, u38, u39, u40, u41, u42, u43, u44, u45, u46, u47, u48, u49, u50, u51, u52, u53, u54, u55, u56, u57, u58, u59, u60, u61, u62, u63, u64, u65, u66, u67, u68, u69, u70, u71, u72, u73, u74, u75, u76, u77, u78, u79, u80, u81, u82, u83, u84, u85, u86, u87, u88, u89, u90, u91, u92, u93, u94, u95, u96, u97, u98, u99, u100, u101, u102, u103, u104, u105, u106, u107, u108, u109, u110, u111, u112, u113, u114, u115, u116, u117, u118, u119, u120, u121, u122, u123, u124, u125, u126, u127, u128, u129, u130, u131, u132, u133, u134, u135, u136, u137, u138, u139, u140, u141, u142, u143, u144, u145, u146, u147, u148, u149, u150, u151, u152, u153, u154, u155, u156, u157, u158, u159, u160, u161, u162, u163, u164, u165, u166, u167, u168, u169, u170, u171, u172, u173, u174], defers := [] } w3 := by
  have HR := Lib.hid hR
  have HSt := Lib.hid hSt
  have HIv := Lib.hid hI
  have HQ := Lib.hid hQ
  clear hR hSt hI hQ
  simp only [codeOf, Try.f5, Option.getD_some]
  go_wp2_with fail
  go_loopw [18] (fun i wr => ∃ j : Nat, j ≤ es.length ∧ i = .int .i64 (j : Int) ∧ Ch [] w3 wr) (fun i _ => es.length - (intOf i).toNat)
  case atStart => exact ⟨0, Nat.zero_le _, rfl, Ch.refl _ _⟩
  case round =>
    obtain ⟨j, hj, rfl, hch⟩ := hrel
    have HCh := Lib.hid hch
    have HRq := Lib.hid (HR.out.ch hch (by simp))
    have HSq := Lib.hid (HSt.out.quiet hch)
    clear hch
    by_cases hlt : j < es.length
    · obtain ⟨e, g9, g10, g11, he, rfl, rfl, rfl, c0, c1, c2, c3, cb, _, _⟩ := HRq.out.at' hlt
      have hb0 : (0 : Int) ≤ (j : Int) := by omega
      have hb1 : (j : Int) < (es.length : Int) := by omega
      have ht : ((j : Int)).toNat = j := rfl
      have HL := Lib.hid hlt
      have hgt := get_st HSq.out (e.slot : Int) (e.gen : Int)
      cases hgn : e.gone with
      | true =>
        have hE := HIv.out.stale he hgn
        rw [hE] at hgt
        have HGt := Lib.hid hgt
        rw [hgn] at cb
        clear hgt hE he hgn c2 c3
        go_wp2_with fail
        with_reducible refine HGt.out.mono ?_
        rintro ee w5 ⟨rfl, h5, hc5⟩
        obtain ⟨z, hz⟩ : ∃ z, z = getX xs (e.slot : Int) (e.gen : Int) := ⟨_, rfl⟩
        rw [← hz]
        have cb5 := (hc5.cell (p := ⟨g11, j, none⟩) (cell_lt cb) (by simp)).trans cb
        have cb6 : (w5.alloc (.cells #[.int .i64 z.1, .string z.2] 61)).cell? ⟨g11, j, none⟩ = some (.bool true) := (World.cell?_alloc_past _ _ _ (cell_lt cb5)).trans cb5
        have HC6 := Lib.hid ((HCh.out.trans hc5).alloc (.cells #[.int .i64 z.1, .string z.2] 61))
        clear h5 hc5 cb cb5 c0 c1 hz
        go_wp2_with fail
        generalize w5.alloc (.cells #[.int .i64 z.1, .string z.2] 61) = w6 at *
        go_quiet (fail)
        go_wp2_with fail
        go_roundw
        case rel => exact ⟨j + 1, by have := HL.out; omega, by go_num, HC6.out.drewN _⟩
        case measure => have := HL.out; simp [intOf]; omega
      | false =>
        obtain ⟨hE, hX⟩ := HIv.out.found he hgn
        rw [hE, hX] at hgt
        have HGt := Lib.hid hgt
        rw [hgn] at cb
        clear hgt hE hX he hgn
        obtain ⟨z, hz⟩ : ∃ z, z = e.x := ⟨_, rfl⟩
        rw [← hz] at c2 c3 HGt
        obtain ⟨z1, z2⟩ := z
        simp only at c2 c3 HGt
        clear hz
        go_wp2_with fail
        with_reducible refine HGt.out.mono ?_
        rintro ee w5 ⟨rfl, h5, hc5⟩
        have cb5 := (hc5.cell (p := ⟨g11, j, none⟩) (cell_lt cb) (by simp)).trans cb
        have c25 := (hc5.cell (p := ⟨g10, j * 2, none⟩) (cell_lt c2) (by simp)).trans c2
        have c35 := (hc5.cell (p := ⟨g10, j * 2 + 1, none⟩) (cell_lt c3) (by simp)).trans c3
        have cb6 : (w5.alloc (.cells #[.int .i64 z1, .string z2] 61)).cell? ⟨g11, j, none⟩ = some (.bool false) := (World.cell?_alloc_past _ _ _ (cell_lt cb5)).trans cb5
        have c26 : (w5.alloc (.cells #[.int .i64 z1, .string z2] 61)).cell? ⟨g10, j * 2, none⟩ = some (.int .i64 z1) := (World.cell?_alloc_past _ _ _ (cell_lt c25)).trans c25
        have c36 : (w5.alloc (.cells #[.int .i64 z1, .string z2] 61)).cell? ⟨g10, j * 2 + 1, none⟩ = some (.string z2) := (World.cell?_alloc_past _ _ _ (cell_lt c35)).trans c35
        have HC6 := Lib.hid ((HCh.out.trans hc5).alloc (.cells #[.int .i64 z1, .string z2] 61))
        have hbx := Box2.new w5 (.int .i64 z1) (.string z2) 61
        have b0 := hbx.c0
        have b1 := hbx.c1
        have n1 : (z1 != z1) = false := by simp
        clear h5 hc5 cb cb5 c2 c25 c3 c35 c0 c1 hbx
        go_wp2_with fail
        obtain ⟨B, hB⟩ : ∃ B, B = w5.heap.size := ⟨_, rfl⟩
        rw [← hB] at b0 b1 ⊢
        clear hB
        generalize w5.alloc (.cells #[.int .i64 z1, .string z2] 61) = w6 at *
        go_quiet (fail)
        go_wp2_with fail
        go_roundw
        case rel => exact ⟨j + 1, by have := HL.out; omega, by go_num, HC6.out.drewN _⟩
        case measure => have := HL.out; simp [intOf]; omega
    · obtain rfl : j = es.length := by omega
      go_wp2_with fail
      exact HQ.out HRq.out HSq.out
end Go.Proofs.Ytdompamilgbnnaa

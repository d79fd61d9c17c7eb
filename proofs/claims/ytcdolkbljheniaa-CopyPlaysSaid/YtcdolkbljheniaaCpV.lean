/-
  CopyPlays: a part (the answer's try).
-/
import Derived.Test.YtcdolkbljheniaaCpU
import Derived.Deep.RegionHeld3
import Derived.Deep.CutBlock
namespace Go.Proofs.Ytcdolkbljheniaa
open Go.RowKit

set_option maxRecDepth 100000 in
set_option maxHeartbeats 4000000 in
theorem plays_rtry {w w3 : World} {n N b g cp L D c X j ga off len6 cap6 : Nat} {y : MS} {z : CZ} {v : Option Addr} {cap : Nat} {T : Bool} (hP : PX w w3 b g N y L D c z X v cap) (_ : 16 * n = N) (_ : N ≤ 256) (ht : z.t < 100000) (hlt : j < len6) (hq : w.cell? ⟨ga, off + j * 7 + 1, none⟩ = some (.bool T))
    {u1 u2 u3 u4 u5 u7 u8 u9 u10 u11 u12 u13 u14 u16 u18 u20 u23 u24 u25 u26 u27 u28 u29 u30 u31 u32 u33 u34 u35 u36 u37 u38 u39 u40 u41 u42 u43 u44 u45 u46 u47 u48 u49 u50 u51 u52 u53 u54 u55 u56 u57 u58 u59 u60 u61 u62 u63 u64 u65 u66 u67 u68 u69 u70 u71 u72 u73 u74 u75 u76 u77 u78 u79 u80 u81 u82 u83 u84 u85 u86 u87 u88 u89 u90 u91 u92 u93 u94 u95 u96 u97 u98 u99 u100 u101 u102 u103 u104 u105 u106 u107 u108 u109 u110 u111 u112 u113 u114 u115 u116 u117 u118 u119 u120 u121 u122 u123 u124 u125 u126 u127 u128 u129 u130 u131 u132 u133 u134 u135 u136 u137 u138 u139 u140 u141 u142 u143 u144 u145 u146 u147 u148 u149 u150 u151 u152 u153 u154 u155 u156 u157 u158 u159 u160 u161 u162 u163 u164 u165 u166 u167 u168 u169 u170 u171 u172 u173 u174 u175 u176 u177 u178 u179 u180 u181 u182 u183 u184 u185 u186 u187 u188 u189 u190 u191 u192 u193 u194 u195 u196 u197 u198 u199 u200 u201 u202 u203 u204 u205 u206 u207 u208 u209 u210 u211 u212 u213 : Value} {Q : Exit → Act → World → Prop}
    (hQ : ∀ ⦃x17 x23 x136 x137 x138 x139 x140 x141 x142 x143 x144 x145 x146 x147 : Value⦄ ⦃wq : World⦄, (∃ g' cp' v' cap' E z' y', x17 = .slice (some ⟨g', 0, none⟩) N cp' ∧ x23 = .int .i64 E ∧ z'.t ≤ z.t + 1 ∧ Ch [] w wq ∧ Hid (Calls Try.prog 15 #[.pointer (some ⟨c, 0, none⟩), .pointer (some ⟨b, 0, none⟩), .bool T] wq fun e w2 => e = .returned (.int .i64 E) ∧ PX w w2 b g' N y' L D c z' X v' cap')) → Q .normal { tmps := #[.int .i64 (n : Int), u1, u2, u3, u4, u5, .slice (some ⟨ga, off, none⟩) len6 cap6, u7, u8, u9, u10, u11, u12, u13, u14, .pointer (some ⟨b, 0, none⟩), u16, x17, u18, .pointer (some ⟨c, 0, none⟩), u20, .pointer (some ⟨X, 0, none⟩), .int .i64 (j : Int), x23, u24, u25, u26, u27, u28, u29, u30, u31, u32, u33, u34, u35, u36, u37, u38, u39, u40, u41, u42, u43, u44, u45, u46, u47, u48, u49, u50, u51, u52, u53, u54, u55, u56, u57, u58, u59, u60, u61, u62, u63, u64, u65, u66, u67, u68, u69, u70, u71, u72, u73, u74, u75, u76, u77, u78, u79, u80, u81, u82, u83, u84, u85, u86, u87, u88, u89, u90, u91, u92, u93, u94, u95, u96, u97, u98, u99, u100, u101, u102, u103, u104, u105, u106, u107, u108, u109, u110, u111, u112, u113, u114, u115, u116, u117, u118, u119, u120, u121, u122, u123, u124, u125, u126, u127, u128, u129, u130, u131, u132, u133, u134, u135, x136, x137, x138, x139, x140, x141, x142, x143, x144, x145, x146, x147, u148, u149, u150, u151, u152, u153, u154, u155, u156, u157, u158, u159, u160, u161, u162, u163, u164, u165, u166, u167, u168, u169, u170, u171, u172, u173, u174, u175, u176, u177, u178, u179, u180, u181, u182, u183, u184, u185, u186, u187, u188, u189, u190, u191, u192, u193, u194, u195, u196, u197, u198, u199, u200, u201, u202, u203, u204, u205, u206, u207, u208, u209, u210, u211, u212, u213], defers := [] } wq) :
    Code.wp Try.prog (codeOf [1, 1, 1, 1, 1, 1, 1, 1, 1, 1, 1, 1, 0, 1, 1, 1, 1, 0, 1, 1, 1, 0] (Try.f3.body.getD .skip)) Q { tmps := #[.int .i64 (n : Int), u1, u2, u3, u4, u5, .slice (some ⟨ga, off, none⟩) len6 cap6, u7, u8, u9, u10, u11, u12, u13, u14, .pointer (some ⟨b, 0, none⟩), u16, .slice (some ⟨g, 0, none⟩) N cp, u18, .pointer (some ⟨c, 0, none⟩), u20, .pointer (some ⟨X, 0, none⟩), .int .i64 (j : Int), u23, u24, u25, u26, u27, u28, u29, u30, u31, u32, u33, u34, u35, u36, u37, u38, u39, u40, u41, u42, u43, u44, u45, u46, u47, u48, u49, u50, u51, u52, u53, u54, u55, u56, u57, u58, u59, u60, u61, u62, u63, u64, u65, u66, u67, u68, u69, u70, u71, u72, u73, u74, u75, u76, u77, u78, u79, u80, u81, u82, u83, u84, u85, u86, u87, u88, u89, u90, u91, u92, u93, u94, u95, u96, u97, u98, u99, u100, u101, u102, u103, u104, u105, u106, u107, u108, u109, u110, u111, u112, u113, u114, u115, u116, u117, u118, u119, u120, u121, u122, u123, u124, u125, u126, u127, u128, u129, u130, u131, u132, u133, u134, u135, u136, u137, u138, u139, u140, u141, u142, u143, u144, u145, u146, u147, u148, u149, u150, u151, u152, u153, u154, u155, u156, u157, u158, u159, u160, u161, u162, u163, u164, u165, u166, u167, u168, u169, u170, u171, u172, u173, u174, u175, u176, u177, u178, u179, u180, u181, u182, u183, u184, u185, u186, u187, u188, u189, u190, u191, u192, u193, u194, u195, u196, u197, u198, u199, u200, u201, u202, u203, u204, u205, u206, u207, u208, u209, u210, u211, u212, u213], defers := [] } w3 := by
  have HQ := Lib.hid hQ
  have HP := Lib.hid hP
  have HC := Lib.hid hq
  have HTt := Lib.hid ht
  clear hQ hP hq ht
  simp only [codeOf, Try.f3, Option.getD_some]
  have hlt' : (j : Int) < (len6 : Int) := by omega
  have hga : ga ≠ X := by have := HP.out.X0; have := cell_lt HC.out; simp at this; omega
  have HGA := Lib.hid hga
  have c1 : w3.cell? ⟨ga, off + j * 7 + 1, none⟩ = some (.bool T) := (HP.out.u.p.l.ch.cell (p := ⟨ga, off + j * 7 + 1, none⟩) (cell_lt HC.out) (by simp)).trans HC.out
  have HPd := Lib.hid (HP.out.quiet (Ch.refl [] w3).drew)
  have HT := HPd.out.try (by have := HTt.out; omega) cp T
  unfold gz at HT
  replace HT := Lib.hid HT
  have x0 := HP.out.bz.c0; have x1 := HP.out.bz.c1; have x2 := HP.out.bz.c2; have x3 := HP.out.bz.c3; have x4 := HP.out.bz.c4; have x5 := HP.out.bz.c5; have x6 := HP.out.bz.c6; have x7 := HP.out.bz.c7; 
  clear hga
  refine wp_region_noPanic ?_
  go_region_with (first
    | (go_at_call 14; with_reducible refine HT.out.mono ?_; rintro e w4 ⟨g', cp', v', cap', E, z', y', rfl, hc4, hz4, hch5, hpr⟩; have hb4 := (HPd.out.quiet hc4).bz; have e0 := hb4.c0; have e1 := hb4.c1; have e2 := hb4.c2; have e3 := hb4.c3; have e4 := hb4.c4; have e5 := hb4.c5; have e6 := hb4.c6; have e7 := hb4.c7;  have ef := hb4.fr; obtain ⟨w5, hw5⟩ : ∃ W, W = stZ w4 X z' v' cap' := ⟨_, rfl⟩; rw [← hw5] at hpr hch5; have hw5' := hw5; unfold stZ st8 at hw5'; have HW5 := Lib.hid hw5'; have HPr := hpr; clear hc4 hw5 hw5' hpr hb4)
    | fail)
  all_goals
    refine NoPanic.normal ?_
    rw [← HW5.out]
    exact HQ.out ⟨g', cp', v', cap', E, z', y', rfl, rfl, hz4.out.1, hch5.out, HPr⟩
end Go.Proofs.Ytcdolkbljheniaa

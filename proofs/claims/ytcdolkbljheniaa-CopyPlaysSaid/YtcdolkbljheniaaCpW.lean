/-
  CopyPlays: a part (what is told behind a try).
-/
import Derived.Test.YtcdolkbljheniaaCpV
import Derived.Deep.RegionHeld3
import Derived.Deep.CutBlock
namespace Go.Proofs.Ytcdolkbljheniaa
open Go.RowKit

set_option maxRecDepth 100000 in
set_option maxHeartbeats 4000000 in
theorem plays_told {w w3 : World} {n N b g' cp' c X j ga off len6 cap6 L D : Nat} {E : Int} {y' : MS} {z' : CZ} {v' : Option Addr} {cap' : Nat} {T : Bool} (hN : 16 * n = N) (hN2 : N ≤ 256) (hlt : j < len6) (hq : w.cell? ⟨ga, off + j * 7 + 1, none⟩ = some (.bool T)) (hc : Ch [] w w3) (hP : Hid (Calls Try.prog 15 #[.pointer (some ⟨c, 0, none⟩), .pointer (some ⟨b, 0, none⟩), .bool T] w3 fun e w2 => e = .returned (.int .i64 E) ∧ PX w w2 b g' N y' L D c z' X v' cap'))
    {u1 u2 u3 u4 u5 u7 u8 u9 u10 u11 u12 u13 u14 u16 u18 u20 u24 u25 u26 u27 u28 u29 u30 u31 u32 u33 u34 u35 u36 u37 u38 u39 u40 u41 u42 u43 u44 u45 u46 u47 u48 u49 u50 u51 u52 u53 u54 u55 u56 u57 u58 u59 u60 u61 u62 u63 u64 u65 u66 u67 u68 u69 u70 u71 u72 u73 u74 u75 u76 u77 u78 u79 u80 u81 u82 u83 u84 u85 u86 u87 u88 u89 u90 u91 u92 u93 u94 u95 u96 u97 u98 u99 u100 u101 u102 u103 u104 u105 u106 u107 u108 u109 u110 u111 u112 u113 u114 u115 u116 u117 u118 u119 u120 u121 u122 u123 u124 u125 u126 u127 u128 u129 u130 u131 u132 u133 u134 u135 u136 u137 u138 u139 u140 u141 u142 u143 u144 u145 u146 u147 u148 u149 u150 u151 u152 u153 u154 u155 u156 u157 u158 u159 u160 u161 u162 u163 u164 u165 u166 u167 u168 u169 u170 u171 u172 u173 u174 u175 u176 u177 u178 u179 u180 u181 u182 u183 u184 u185 u186 u187 u188 u189 u190 u191 u192 u193 u194 u195 u196 u197 u198 u199 u200 u201 u202 u203 u204 u205 u206 u207 u208 u209 u210 u211 u212 u213 : Value} {Q : Exit → Act → World → Prop}
    (hQ : ∀ ⦃x14 x24 x25 x26 x27 x28 x29 x148 x149 x150 x151 x152 x153 x154 x155 x156 x157 x158 x159 x160 x161 x162 x163 x164 x165 x166 x167 x168 x169 x170 x171 x172 x173 x174 x175 x176 x177 x178 x179 x180 x181 x182 x183 x184 x185 x186 x187 x188 x189 x190 x191 x192 x193 x194 x195 x196 x197 x198 x199 x200 x201 x202 x203 x204 x205 x206 x207 x208 x209 x210 x211 x212 : Value⦄ ⦃wq : World⦄, PX w wq b g' N y' L D c z' X v' cap' → Q .normal { tmps := #[.int .i64 (n : Int), u1, u2, u3, u4, u5, .slice (some ⟨ga, off, none⟩) len6 cap6, u7, u8, u9, u10, u11, u12, u13, x14, .pointer (some ⟨b, 0, none⟩), u16, .slice (some ⟨g', 0, none⟩) N cp', u18, .pointer (some ⟨c, 0, none⟩), u20, .pointer (some ⟨X, 0, none⟩), .int .i64 (j : Int), .int .i64 E, x24, x25, x26, x27, x28, x29, u30, u31, u32, u33, u34, u35, u36, u37, u38, u39, u40, u41, u42, u43, u44, u45, u46, u47, u48, u49, u50, u51, u52, u53, u54, u55, u56, u57, u58, u59, u60, u61, u62, u63, u64, u65, u66, u67, u68, u69, u70, u71, u72, u73, u74, u75, u76, u77, u78, u79, u80, u81, u82, u83, u84, u85, u86, u87, u88, u89, u90, u91, u92, u93, u94, u95, u96, u97, u98, u99, u100, u101, u102, u103, u104, u105, u106, u107, u108, u109, u110, u111, u112, u113, u114, u115, u116, u117, u118, u119, u120, u121, u122, u123, u124, u125, u126, u127, u128, u129, u130, u131, u132, u133, u134, u135, u136, u137, u138, u139, u140, u141, u142, u143, u144, u145, u146, u147, x148, x149, x150, x151, x152, x153, x154, x155, x156, x157, x158, x159, x160, x161, x162, x163, x164, x165, x166, x167, x168, x169, x170, x171, x172, x173, x174, x175, x176, x177, x178, x179, x180, x181, x182, x183, x184, x185, x186, x187, x188, x189, x190, x191, x192, x193, x194, x195, x196, x197, x198, x199, x200, x201, x202, x203, x204, x205, x206, x207, x208, x209, x210, x211, x212, u213], defers := [] } wq) :
    Code.wp Try.prog (codeOf [1, 1, 1, 1, 1, 1, 1, 1, 1, 1, 1, 1, 0, 1, 1, 1, 1, 0, 1, 1, 1, 1] (Try.f3.body.getD .skip)) Q { tmps := #[.int .i64 (n : Int), u1, u2, u3, u4, u5, .slice (some ⟨ga, off, none⟩) len6 cap6, u7, u8, u9, u10, u11, u12, u13, u14, .pointer (some ⟨b, 0, none⟩), u16, .slice (some ⟨g', 0, none⟩) N cp', u18, .pointer (some ⟨c, 0, none⟩), u20, .pointer (some ⟨X, 0, none⟩), .int .i64 (j : Int), .int .i64 E, u24, u25, u26, u27, u28, u29, u30, u31, u32, u33, u34, u35, u36, u37, u38, u39, u40, u41, u42, u43, u44, u45, u46, u47, u48, u49, u50, u51, u52, u53, u54, u55, u56, u57, u58, u59, u60, u61, u62, u63, u64, u65, u66, u67, u68, u69, u70, u71, u72, u73, u74, u75, u76, u77, u78, u79, u80, u81, u82, u83, u84, u85, u86, u87, u88, u89, u90, u91, u92, u93, u94, u95, u96, u97, u98, u99, u100, u101, u102, u103, u104, u105, u106, u107, u108, u109, u110, u111, u112, u113, u114, u115, u116, u117, u118, u119, u120, u121, u122, u123, u124, u125, u126, u127, u128, u129, u130, u131, u132, u133, u134, u135, u136, u137, u138, u139, u140, u141, u142, u143, u144, u145, u146, u147, u148, u149, u150, u151, u152, u153, u154, u155, u156, u157, u158, u159, u160, u161, u162, u163, u164, u165, u166, u167, u168, u169, u170, u171, u172, u173, u174, u175, u176, u177, u178, u179, u180, u181, u182, u183, u184, u185, u186, u187, u188, u189, u190, u191, u192, u193, u194, u195, u196, u197, u198, u199, u200, u201, u202, u203, u204, u205, u206, u207, u208, u209, u210, u211, u212, u213], defers := [] } w3 := by
  have HQ := Lib.hid hQ
  have HC := Lib.hid hq
  have HCh := Lib.hid hc
  clear hQ hq hc
  simp only [codeOf, Try.f3, Option.getD_some]
  have hw16 : IntKind.i64.wrap (16 * (n : Int)) = (N : Int) := by rw [IntWalk.i64_in _ (by omega)]; omega
  have hlt' : (j : Int) < (len6 : Int) := by omega
  have c1 : w3.cell? ⟨ga, off + j * 7 + 1, none⟩ = some (.bool T) := (HCh.out.cell (p := ⟨ga, off + j * 7 + 1, none⟩) (cell_lt HC.out) (by simp)).trans HC.out
  clear hN
  go_wp2_with fail
  with_reducible refine hP.out.mono ?_
  rintro e w4 ⟨rfl, h4⟩
  have H4 := Lib.hid h4
  have C := Lib.hid (h4.u.uc.page rfl rfl)
  clear h4 hP c1
  go_wp2_with fail
  with_reducible refine C.out.mono ?_
  rintro e w' ⟨rfl, rfl⟩
  clear C
  have HPd := Lib.hid (H4.out.quiet (Ch.refl [] w4).drew)
  have hbd := H4.out.bz
  have x1 := hbd.c1; have x2 := hbd.c2; have x5 := hbd.c5; have x6 := hbd.c6; have x7 := hbd.c7; 
  clear hbd
  have hbl := H4.out.u.k.hb
  have ne1 : ∀ u : Int, (u != u) = false := fun u => by simp
  have ne2 : ∀ u : Bool, (u != u) = false := fun u => by simp
  have HBL := Lib.hid hbl
  clear hbl
  go_wp2_with fail
  go_region_held3 (fun w' => w'.cell? ⟨X, 1, none⟩ = some (.bool z'.over) ∧ w'.cell? ⟨X, 2, none⟩ = some (.bool z'.waits) ∧ w'.cell? ⟨X, 5, none⟩ = some (.int .i64 z'.pageOf) ∧ w'.cell? ⟨X, 6, none⟩ = some (.int .i64 (z'.t : Int)) ∧ w'.cell? ⟨X, 7, none⟩ = some (.slice v' z'.bs.length cap')) (go_keep) (first
    | (go_at_call 17; with_reducible refine (HPd.out.u.uc.over rfl).mono ?_; rintro e w' ⟨rfl, rfl⟩)
    | (go_at_call 18; with_reducible refine (HPd.out.u.uc.tries rfl).mono ?_; rintro e w' ⟨rfl, rfl⟩)
    | (go_at_call 20; with_reducible refine (HPd.out.u.uc.bytes rfl rfl).mono ?_; rintro e w7 ⟨v7, cap7, rfl, hb7, -, hc7⟩; have h7 := HPd.out.quiet hc7; have hb := h7.bz; have e1 := hb.c1; have e2 := hb.c2; have e5 := hb.c5; have e6 := hb.c6; have e7 := hb.c7;  have HS7 := Lib.hid (same_any cap7 cap' (n := z'.bs.length) rfl (Nat.le_trans HBL.out (by decide)) hb7 h7.vb); have H7 := Lib.hid h7; clear hb h7 hb7 hc7)
    | (go_at_call 19; with_reducible refine HS7.out.mono ?_; rintro e w8 ⟨rfl, hc8⟩; have h8 := H7.out.quiet hc8; have hb := h8.bz; have i1 := hb.c1; have i2 := hb.c2; have i5 := hb.c5; have i6 := hb.c6; have i7 := hb.c7;  have H8 := Lib.hid h8; clear hb h8 hc8)
    | fail)
  have C := Lib.hid (H8.out.u.p.peek cp' 0 (N : Int) (by decide))
  clear x1 x2 x5 x6 x7 e1 e2 e5 e6 e7 i1 i2 i5 i6 i7
  go_wp2_with fail
  with_reducible refine C.out.mono ?_
  rintro e w9 ⟨p, jj, cp9, E9, L9, rfl, -, -, hL, C4⟩
  clear C
  go_wp2_with fail
  with_reducible refine C4.out.mono ?_
  rintro e w10 ⟨p2, cp10, rfl, h5⟩
  have C5 := Lib.hid (same_any cp10 cp9 hL.out.1 (Nat.le_trans hL.out.2.1 (by decide)) h5.out.2.1 h5.out.1)
  clear C4
  go_wp2_with fail
  with_reducible refine C5.out.mono ?_
  rintro e w11 ⟨rfl, hc11⟩
  have HF := Lib.hid (H8.out.quiet (h5.out.2.2.2.trans hc11))
  clear hc11 C5 h5 hL
  go_wp2_with fail
  exact HQ.out HF.out
end Go.Proofs.Ytcdolkbljheniaa

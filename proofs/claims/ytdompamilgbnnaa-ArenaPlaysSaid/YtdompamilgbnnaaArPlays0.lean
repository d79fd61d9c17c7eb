/-
  The law ArenaPlays: the switch's way 0.
-/
import Derived.Test.YtdompamilgbnnaaAIK
import Derived.Test.YtdompamilgbnnaaArC
import Derived.Test.YtdompamilgbnnaaArPB
namespace Go.Proofs.Ytdompamilgbnnaa
open Go.RowKit aI

attribute [local go_sem] Oper.semAt_some

set_option maxRecDepth 100000 in
set_option maxHeartbeats 4000000 in
theorem plays_way0 {S : Nat} {w w3 : World} {R A : Nat} {xs : List (Sl Int)} {v : Value} {E s g x U K : Int} (hR : RS w3 (R + 1) v xs) (hSt : St S w w3 R xs) (hX : Box4 w3 A K s g x) (hY : Box2 w3 (A + 1) (.int .i64 s) (.int .i64 g)) (hA : S < A) (hE : E = findE xs s g) (hq : U % 4 = 0)
    {u0 u1 u2 u3 u4 u6 u8 u12 u13 u14 u15 u16 u17 u18 u19 u20 u21 u22 u23 u24 u25 u26 u27 u28 u29 u30 u31 u32 u33 u34 u35 u36 u37 u38 u39 u40 u41 u42 u43 u44 u45 u46 u47 u48 u49 u50 u51 u52 u53 u54 u55 u56 u57 u58 u59 u60 u61 u62 u63 u64 u65 u66 u67 u68 u69 u70 u71 u72 u73 u74 u75 u76 u77 u78 u79 u80 u82 u83 u84 u85 u86 u87 u88 u89 u90 u91 u92 u93 u94 u95 u96 u97 u98 u99 u100 u101 u102 u103 u104 u105 u106 u107 u108 u109 u110 u111 u112 u113 u114 u115 u116 u117 u118 u119 u120 u121 u122 u123 u124 u125 u126 u127 u128 u129 u130 u131 u132 u133 u134 u135 u136 u137 u138 u139 u140 u141 u142 u143 u144 u145 u146 u147 u148 u149 u150 u151 u152 u153 u154 u155 u156 u157 u158 u159 u160 u161 u162 u163 u164 u165 u166 u167 u168 u169 u170 u171 u172 u173 u174 u175 u176 u177 u178 u179 u180 u181 u182 u183 u184 u185 u186 u187 u188 u189 u190 u191 u192 u193 u194 u195 u196 u197 u198 u199 u200 u201 u202 u203 u204 u205 u206 u207 u208 u209 u210 u211 u212 u213 u214 u215 u216 u217 u218 u219 u220 u221 u222 u223 u224 u225 u226 u227 u228 u229 u230 u231 u232 u233 u234 u235 u236 u237 u238 u239 u240 u241 u242 u243 u244 u245 u246 u247 u248 u249 u250 u251 u252 u253 u254 u255 u256 u257 u258 u259 u260 : Value} {Q : Exit → Act → World → Prop}
    (hQ : ∀ ⦃x4 x7 x12 x13 x14 x15 x16 x17 x18 x19 x20 x21 x81 x82 x83 x84 x85 x86 x87 x88 x89 x90 x91 x92 x93 x94 x95 x96 x97 x98 x99 x100 x101 x102 x103 x104 x105 x106 x107 x108 x109 x110 x111 x112 x113 x114 x115 x116 x117 x118 x119 x120 x121 x122 x123 x124 x125 x126 x127 x128 x129 x130 x131 x132 x133 x134 x135 x136 x137 x138 x139 x140 x141 x142 x143 x144 x145 x146 x147 x148 x149 x150 x151 x152 x153 x154 x155 x156 x157 x158 x159 x160 x161 x162 x163 x164 x165 x166 x167 x168 x169 x170 x171 x172 x173 x174 x175 x176 x177 x178 x179 x180 x181 x182 : Value⦄ ⦃ys : List (Sl Int)⦄ ⦃wq : World⦄, RS wq (R + 1) x7 ys → St S w wq R ys → Q .normal { tmps := #[u0, u1, u2, u3, x4, .pointer (some ⟨R, 0, none⟩), u6, x7, u8, .pointer (some ⟨A, 0, none⟩), .pointer (some ⟨A + 1, 0, none⟩), .int .i64 E, x12, x13, x14, x15, x16, x17, x18, x19, x20, x21, u22, u23, u24, u25, u26, u27, u28, u29, u30, u31, u32, u33, u34, u35, u36, u37, u38, u39, u40, u41, u42, u43, u44, u45, u46, u47, u48, u49, u50, u51, u52, u53, u54, u55, u56, u57, u58, u59, u60, u61, u62, u63, u64, u65, u66, u67, u68, u69, u70, u71, u72, u73, u74, u75, u76, u77, u78, u79, u80, x81, x82, x83, x84, x85, x86, x87, x88, x89, x90, x91, x92, x93, x94, x95, x96, x97, x98, x99, x100, x101, x102, x103, x104, x105, x106, x107, x108, x109, x110, x111, x112, x113, x114, x115, x116, x117, x118, x119, x120, x121, x122, x123, x124, x125, x126, x127, x128, x129, x130, x131, x132, x133, x134, x135, x136, x137, x138, x139, x140, x141, x142, x143, x144, x145, x146, x147, x148, x149, x150, x151, x152, x153, x154, x155, x156, x157, x158, x159, x160, x161, x162, x163, x164, x165, x166, x167, x168, x169, x170, x171, x172, x173, x174, x175, x176, x177, x178, x179, x180, x181, x182, u183, u184, u185, u186, u187, u188, u189, u190, u191, u192, u193, u194, u195, u196, u197, u198, u199, u200, u201, u202, u203, u204, u205, u206, u207, u208, u209, u210, u211, u212, u213, u214, u215, u216, u217, u218, u219, u220, u221, u222, u223, u224, u225, u226, u227, u228, u229, u230, u231, u232, u233, u234, u235, u236, u237, u238, u239, u240, u241, u242, u243, u244, u245, u246, u247, u248, u249, u250, u251, u252, u253, u254, u255, u256, u257, u258, u259, u260], defers := [] } wq) :
    Code.wp Try.prog (codeAt [1, 1, 1, 1, 1, 0, 1, 0, 0, 1, 0, 0, 1, 1, 1, 0, 1] (Try.f3.body.getD .skip)) Q { tmps := #[u0, u1, u2, u3, u4, .pointer (some ⟨R, 0, none⟩), u6, v, u8, .pointer (some ⟨A, 0, none⟩), .pointer (some ⟨A + 1, 0, none⟩), .int .i64 E, u12, u13, u14, u15, u16, u17, u18, u19, u20, u21, u22, u23, u24, u25, u26, u27, u28, u29, u30, u31, u32, u33, u34, u35, u36, u37, u38, u39, u40, u41, u42, u43, u44, u45, u46, u47, u48, u49, u50, u51, u52, u53, u54, u55, u56, u57, u58, u59, u60, u61, u62, u63, u64, u65, u66, u67, u68, u69, u70, u71, u72, u73, u74, u75, u76, u77, u78, u79, u80, .int .u64 (U % 4), u82, u83, u84, u85, u86, u87, u88, u89, u90, u91, u92, u93, u94, u95, u96, u97, u98, u99, u100, u101, u102, u103, u104, u105, u106, u107, u108, u109, u110, u111, u112, u113, u114, u115, u116, u117, u118, u119, u120, u121, u122, u123, u124, u125, u126, u127, u128, u129, u130, u131, u132, u133, u134, u135, u136, u137, u138, u139, u140, u141, u142, u143, u144, u145, u146, u147, u148, u149, u150, u151, u152, u153, u154, u155, u156, u157, u158, u159, u160, u161, u162, u163, u164, u165, u166, u167, u168, u169, u170, u171, u172, u173, u174, u175, u176, u177, u178, u179, u180, u181, u182, u183, u184, u185, u186, u187, u188, u189, u190, u191, u192, u193, u194, u195, u196, u197, u198, u199, u200, u201, u202, u203, u204, u205, u206, u207, u208, u209, u210, u211, u212, u213, u214, u215, u216, u217, u218, u219, u220, u221, u222, u223, u224, u225, u226, u227, u228, u229, u230, u231, u232, u233, u234, u235, u236, u237, u238, u239, u240, u241, u242, u243, u244, u245, u246, u247, u248, u249, u250, u251, u252, u253, u254, u255, u256, u257, u258, u259, u260], defers := [] } w3 := by
  have HR3 := Lib.hid hR
  have H3 := Lib.hid hSt
  have HX0 := Lib.hid hX
  have HY0 := Lib.hid hY
  have HXl := Lib.hid hA
  have HE := Lib.hid hE
  have HQ := Lib.hid hQ
  have HRS := Lib.hid hSt.r
  have h64 := hSt.a.n2
  have HG := Lib.hid hSt.a.gb
  have x0 := hX.c0
  clear hR hSt hX hY hA hE hQ
  simp only [codeAt, Try.f3, Option.getD_some]
  have x3 := HX0.out.c3
  go_wp2_with fail
  with_reducible refine (rput_any HR3.out (Nat.succ_le_of_lt H3.out.z) h64 x).mono ?_
  rintro e w4 ⟨v4, rfl, hr4, hb4⟩
  have HR4 := Lib.hid hr4
  have H4 := Lib.hid (H3.out.below hb4)
  have hx4 := HX0.out.ch (S := []) (Ch.of_below hb4) (by simp)
  have x3 := hx4.c3
  clear hr4 hb4 hx4 x0
  go_wp2_with fail
  with_reducible refine (put_st H4.out x).mono ?_
  rintro e w5 ⟨rfl, h5, hc5⟩
  have HR5 := Lib.hid ((HR4.out.ch hc5 (by have := HRS.out; simp; omega)).ch (S := []) ((Ch.refl [] w5).alloc (.cells #[.int .i64 (putS xs), .int .i64 (putG xs)] 33)) (by simp))
  have H5 := Lib.hid (h5.alloc (.cells #[.int .i64 (putS xs), .int .i64 (putG xs)] 33))
  clear h5 hc5 x3 HR4 H4
  generalize putS xs = ps at *
  generalize putG xs = pg at *
  generalize putE xs = pe at *
  have n1 : (ps != ps) = false := by simp
  have n2 : (pg != pg) = false := by simp
  have n3 : (pe != pe) = false := by simp
  go_wp2_with fail
  exact HQ.out HR5.out H5.out
end Go.Proofs.Ytdompamilgbnnaa

/-
  BankPlays: a part of a round over the CPUs (end).
-/
import Derived.Test.YtnndofeomakpiaaGreatDoorBqF
import Derived.Deep.RegionHeld3
namespace Go.Proofs.YtnndofeomakpiaaGreatDoor
open Go.RowKit Go.Maps Go.BigFrame

attribute [local go_sem] Oper.semAt_some

set_option maxRecDepth 100000 in
set_option maxHeartbeats 4000000 in
theorem bplays_end {w w3 : World} {K n A : Nat} {c : Nat → Value} {f : Nat → Wh} {m : Value} {at' x y : Int} {b b' : Bool} {za : Option Addr} {zs : List Int} {zc : Nat} (hT : Mk.Tab w) (hP : BP w w3 K n f m f A 3 c) (hc2 : c 2 = .int .u64 at') (hz : Mk.IntsAt w za zs) (hl10 : zs.length ≤ 10) (hL1 : LeastL f (dwn n n) x b) (hL2 : LeastL f ((dwn n n).filter (inA zs)) y b')
    {u0 u1 u2 u4 u5 u6 u7 u8 u10 u11 u12 u14 u15 u16 u17 u18 u19 u20 u21 u22 u23 u24 u25 u26 u27 u28 u35 u36 u37 u38 u39 u40 u41 u42 u43 u44 u45 u46 u47 u48 u49 u50 u51 u52 u53 u54 u55 u56 u57 u58 u59 u60 u61 u62 u63 u64 u65 u66 u67 u68 u69 u70 u71 u72 u73 u74 u75 u76 u77 u78 u79 u80 u81 u82 u83 u84 u85 u86 u87 u88 u89 u90 u91 u92 u93 u94 u95 u96 u97 u98 u99 u100 u101 u102 u103 u104 u105 u106 u107 u108 u109 u110 u111 u112 u113 u114 u115 u116 u117 u118 u119 u120 u121 u122 u123 u124 u125 u126 u127 u128 u129 u130 u131 u132 u133 u134 u135 u136 u137 u138 u139 u140 u141 u142 u143 u144 u145 u146 u147 u148 u149 u150 u151 u152 u153 u154 u155 u156 u157 u158 u159 u160 u161 u162 u163 u164 u165 u166 u167 u168 u169 u170 u171 u172 u173 u174 u175 u176 u177 u178 u179 u180 u181 u182 u183 u184 u185 u186 u187 u188 u189 u190 u191 u192 u193 u194 u195 u196 u197 u198 u199 u200 u201 u202 u203 u204 u205 u206 u207 u208 u209 u210 u211 u212 u213 u214 u215 u216 u217 u218 u219 u220 u221 u222 u223 u224 u225 u226 u227 u228 u229 u230 u231 u232 u233 u234 u235 u236 u237 u238 u239 u240 u241 u242 u243 u244 u245 u246 u247 u248 u249 u250 u251 u252 u253 u254 u255 u256 u257 u258 u259 u260 u261 u262 u263 u264 u265 u266 u267 u268 u269 u270 u271 u272 u273 u274 u275 u276 u277 u278 u279 u280 u281 u282 u283 u284 u285 u286 u287 u288 u289 u290 u291 u292 u293 u294 u295 u296 u297 u298 u299 u300 u301 u302 u303 u304 u305 u306 u307 u308 u309 u310 u311 u312 u313 u314 u315 u316 u317 u318 u319 u320 u321 u322 u323 u324 u325 u326 u327 u328 u329 u330 u331 u332 u333 u334 u335 u336 u337 u338 u339 u340 u341 u342 u343 u344 u345 u346 u347 u348 u349 u350 u351 u352 u353 u354 : Value} {Q : Exit → Act → World → Prop}
    (hQ : ∀ ⦃x8 x40 x41 x42 x43 x311 x312 x313 x314 x315 x316 x317 x318 x319 x320 x321 x322 x323 x324 x325 x326 x327 x328 x329 x330 x331 x332 x333 x334 x335 x336 x337 x338 x339 x340 x341 x342 x343 x344 x345 x346 x347 x348 x349 x350 x351 x352 x353 : Value⦄ ⦃wq : World⦄, BP w wq K n f m f A 3 c → w3.heap.size ≤ wq.heap.size → Q .normal { tmps := #[u0, u1, u2, .slice za zs.length zc, u4, u5, u6, u7, x8, .pointer (some ⟨K, 0, none⟩), u10, u11, u12, .pointer (some ⟨A, 0, none⟩), u14, u15, u16, u17, u18, u19, u20, u21, u22, u23, u24, u25, u26, u27, u28, .int .i64 ((lens f n : Nat) : Int), .int .u64 ((lateN f n at' : Nat) : Int), .int .u64 x, .bool b, .int .u64 y, .bool b', u35, u36, u37, u38, u39, x40, x41, x42, x43, u44, u45, u46, u47, u48, u49, u50, u51, u52, u53, u54, u55, u56, u57, u58, u59, u60, u61, u62, u63, u64, u65, u66, u67, u68, u69, u70, u71, u72, u73, u74, u75, u76, u77, u78, u79, u80, u81, u82, u83, u84, u85, u86, u87, u88, u89, u90, u91, u92, u93, u94, u95, u96, u97, u98, u99, u100, u101, u102, u103, u104, u105, u106, u107, u108, u109, u110, u111, u112, u113, u114, u115, u116, u117, u118, u119, u120, u121, u122, u123, u124, u125, u126, u127, u128, u129, u130, u131, u132, u133, u134, u135, u136, u137, u138, u139, u140, u141, u142, u143, u144, u145, u146, u147, u148, u149, u150, u151, u152, u153, u154, u155, u156, u157, u158, u159, u160, u161, u162, u163, u164, u165, u166, u167, u168, u169, u170, u171, u172, u173, u174, u175, u176, u177, u178, u179, u180, u181, u182, u183, u184, u185, u186, u187, u188, u189, u190, u191, u192, u193, u194, u195, u196, u197, u198, u199, u200, u201, u202, u203, u204, u205, u206, u207, u208, u209, u210, u211, u212, u213, u214, u215, u216, u217, u218, u219, u220, u221, u222, u223, u224, u225, u226, u227, u228, u229, u230, u231, u232, u233, u234, u235, u236, u237, u238, u239, u240, u241, u242, u243, u244, u245, u246, u247, u248, u249, u250, u251, u252, u253, u254, u255, u256, u257, u258, u259, u260, u261, u262, u263, u264, u265, u266, u267, u268, u269, u270, u271, u272, u273, u274, u275, u276, u277, u278, u279, u280, u281, u282, u283, u284, u285, u286, u287, u288, u289, u290, u291, u292, u293, u294, u295, u296, u297, u298, u299, u300, u301, u302, u303, u304, u305, u306, u307, u308, u309, u310, x311, x312, x313, x314, x315, x316, x317, x318, x319, x320, x321, x322, x323, x324, x325, x326, x327, x328, x329, x330, x331, x332, x333, x334, x335, x336, x337, x338, x339, x340, x341, x342, x343, x344, x345, x346, x347, x348, x349, x350, x351, x352, x353, u354], defers := [] } wq) :
    Code.wp Tryz.prog (codeOf [1, 1, 1, 1, 1, 1, 0, 1, 1, 1, 1, 0, 1, 1, 1, 1, 1, 1, 1, 1, 1, 1, 1, 1] (Tryz.f3.body.getD .skip)) Q { tmps := #[u0, u1, u2, .slice za zs.length zc, u4, u5, u6, u7, u8, .pointer (some ⟨K, 0, none⟩), u10, u11, u12, .pointer (some ⟨A, 0, none⟩), u14, u15, u16, u17, u18, u19, u20, u21, u22, u23, u24, u25, u26, u27, u28, .int .i64 ((lens f n : Nat) : Int), .int .u64 ((lateN f n at' : Nat) : Int), .int .u64 x, .bool b, .int .u64 y, .bool b', u35, u36, u37, u38, u39, u40, u41, u42, u43, u44, u45, u46, u47, u48, u49, u50, u51, u52, u53, u54, u55, u56, u57, u58, u59, u60, u61, u62, u63, u64, u65, u66, u67, u68, u69, u70, u71, u72, u73, u74, u75, u76, u77, u78, u79, u80, u81, u82, u83, u84, u85, u86, u87, u88, u89, u90, u91, u92, u93, u94, u95, u96, u97, u98, u99, u100, u101, u102, u103, u104, u105, u106, u107, u108, u109, u110, u111, u112, u113, u114, u115, u116, u117, u118, u119, u120, u121, u122, u123, u124, u125, u126, u127, u128, u129, u130, u131, u132, u133, u134, u135, u136, u137, u138, u139, u140, u141, u142, u143, u144, u145, u146, u147, u148, u149, u150, u151, u152, u153, u154, u155, u156, u157, u158, u159, u160, u161, u162, u163, u164, u165, u166, u167, u168, u169, u170, u171, u172, u173, u174, u175, u176, u177, u178, u179, u180, u181, u182, u183, u184, u185, u186, u187, u188, u189, u190, u191, u192, u193, u194, u195, u196, u197, u198, u199, u200, u201, u202, u203, u204, u205, u206, u207, u208, u209, u210, u211, u212, u213, u214, u215, u216, u217, u218, u219, u220, u221, u222, u223, u224, u225, u226, u227, u228, u229, u230, u231, u232, u233, u234, u235, u236, u237, u238, u239, u240, u241, u242, u243, u244, u245, u246, u247, u248, u249, u250, u251, u252, u253, u254, u255, u256, u257, u258, u259, u260, u261, u262, u263, u264, u265, u266, u267, u268, u269, u270, u271, u272, u273, u274, u275, u276, u277, u278, u279, u280, u281, u282, u283, u284, u285, u286, u287, u288, u289, u290, u291, u292, u293, u294, u295, u296, u297, u298, u299, u300, u301, u302, u303, u304, u305, u306, u307, u308, u309, u310, u311, u312, u313, u314, u315, u316, u317, u318, u319, u320, u321, u322, u323, u324, u325, u326, u327, u328, u329, u330, u331, u332, u333, u334, u335, u336, u337, u338, u339, u340, u341, u342, u343, u344, u345, u346, u347, u348, u349, u350, u351, u352, u353, u354], defers := [] } w3 := by
  have HQ := Lib.hid hQ
  have HT := Lib.hid hT
  have HP := Lib.hid hP
  have HC2 := Lib.hid hc2
  have HZ := Lib.hid hz
  have HL1 := Lib.hid hL1
  have HL2 := Lib.hid hL2
  clear hQ hT hP hc2 hz hL1 hL2
  simp only [codeOf, Tryz.f3, Option.getD_some]
  have HN64 := Lib.hid HP.out.bl.le
  have HNx := Lib.hid (HP.out.next0 HT.out)
  have HNy := Lib.hid (fun (W : World) (hc : Ch [] w3 W) => (HP.out.quiet hc).next HT.out (cp := zc) (HZ.out.later (HP.out.quiet hc).bl.bel) (show zs.length ≤ 9223372036854775807 by omega))
  obtain ⟨S, hS⟩ : ∃ y : Int, y = ((lens f n : Nat) : Int) := ⟨_, rfl⟩
  obtain ⟨V, hV⟩ : ∃ y : Int, y = ((lateN f n at' : Nat) : Int) := ⟨_, rfl⟩
  have hle : ∀ W, Ch [] w3 W → Calls Tryz.prog 21 #[.pointer (some ⟨K, 0, none⟩)] W fun e W' => e = .returned (.int .i64 S) ∧ Ch [] W W' := fun W hc => by
    rw [hS]
    exact (HP.out.quiet hc).bl.len
  have hla : ∀ W, Ch [] w3 W → Calls Tryz.prog 22 #[.pointer (some ⟨K, 0, none⟩), .int .u64 at'] W fun e W' => e = .returned (.int .u64 V) ∧ Ch [] W W' := fun W hc => by
    rw [hV]
    exact (HP.out.quiet hc).late HT.out at'
  have HLen := Lib.hid hle
  have HLate := Lib.hid hla
  have hq := HQ.out
  rw [← hS, ← hV] at hq ⊢
  have HQ' := Lib.hid hq
  clear hq HQ hS hV hle hla
  go_wp2_with fail
  with_reducible refine HNx.out.mono ?_
  rintro e w4 ⟨x1, b1, rfl, hl1, hc4⟩
  obtain ⟨rfl, rfl⟩ := HL1.out.every HN64.out hl1
  have HC4 := Lib.hid hc4
  clear hc4 hl1
  go_wp2_with fail
  with_reducible refine (HNy.out _ HC4.out).mono ?_
  rintro e w5 ⟨y1, b2, rfl, hl2, hc5⟩
  obtain ⟨rfl, rfl⟩ := HL2.out.asked HN64.out hl2
  have HC5 := Lib.hid (HC4.out.trans hc5)
  clear hc5 hl2
  go_wp2_with fail
  with_reducible refine (HLen.out _ HC5.out).mono ?_
  rintro e w6 ⟨rfl, hc6⟩
  have HC6 := Lib.hid (HC5.out.trans hc6)
  have a2 := ((HP.out.quiet HC6.out).act 2 (by decide)).trans (congrArg some HC2.out)
  clear hc6
  go_wp2_with fail
  with_reducible refine (HLate.out _ HC6.out).mono ?_
  rintro e w7 ⟨rfl, hc7⟩
  have HC7 := Lib.hid (HC6.out.trans hc7)
  clear hc7 a2
  go_wp2
  exact HQ'.out (HP.out.quiet HC7.out) HC7.out.size
end Go.Proofs.YtnndofeomakpiaaGreatDoor

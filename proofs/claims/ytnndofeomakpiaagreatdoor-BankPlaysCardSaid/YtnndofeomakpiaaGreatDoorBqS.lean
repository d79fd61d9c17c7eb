/-
  BankPlays: the calls.
-/
import Derived.Test.YtnndofeomakpiaaGreatDoorBqP
import Derived.Test.YtnndofeomakpiaaGreatDoorBqQ
import Derived.Test.YtnndofeomakpiaaGreatDoorBqR
import Derived.Deep.RegionHeld3
namespace Go.Proofs.YtnndofeomakpiaaGreatDoor
open Go.RowKit Go.Maps Go.BigFrame

attribute [local go_sem] Oper.semAt_some

set_option maxRecDepth 100000 in
set_option maxHeartbeats 4000000 in
theorem bplays_sw {w w3 : World} {K n A : Nat} {c : Nat → Value} {f : Nat → Wh} {m : Value} {id at' : Int} {cpu U : Int} (hT : Mk.Tab w) (hP : BP w w3 K n f m f A 3 c) (hc1 : c 1 = .int .i64 id) (hc2 : c 2 = .int .u64 at') (ha : Wd at') (hid : wf64 id) (hp : ∀ i, i < n → (f i).puts < 4611686018427387904) (hU0 : 0 ≤ U)
    {u0 u1 u2 u3 u4 u5 u6 u7 u8 u10 u12 u15 u16 u17 u18 u19 u20 u21 u22 u23 u24 u25 u26 u27 u28 u29 u30 u31 u32 u33 u34 u35 u36 u37 u38 u39 u40 u41 u42 u43 u44 u45 u46 u47 u48 u49 u50 u51 u52 u53 u54 u55 u56 u57 u58 u59 u60 u61 u62 u63 u64 u65 u66 u67 u68 u69 u70 u71 u72 u73 u74 u75 u76 u77 u78 u79 u80 u81 u82 u83 u84 u85 u86 u87 u88 u89 u90 u91 u92 u93 u95 u96 u97 u98 u99 u100 u101 u102 u103 u104 u105 u106 u107 u108 u109 u110 u111 u112 u113 u114 u115 u116 u117 u118 u119 u120 u121 u122 u123 u124 u125 u126 u127 u128 u129 u130 u131 u132 u133 u134 u135 u136 u137 u138 u139 u140 u141 u142 u143 u144 u145 u146 u147 u148 u149 u150 u151 u152 u153 u154 u155 u156 u157 u158 u159 u160 u161 u162 u163 u164 u165 u166 u167 u168 u169 u170 u171 u172 u173 u174 u175 u176 u177 u178 u179 u180 u181 u182 u183 u184 u185 u186 u187 u188 u189 u190 u191 u192 u193 u194 u195 u196 u197 u198 u199 u200 u201 u202 u203 u204 u205 u206 u207 u208 u209 u210 u211 u212 u213 u214 u215 u216 u217 u218 u219 u220 u221 u222 u223 u224 u225 u226 u227 u228 u229 u230 u231 u232 u233 u234 u235 u236 u237 u238 u239 u240 u241 u242 u243 u244 u245 u246 u247 u248 u249 u250 u251 u252 u253 u254 u255 u256 u257 u258 u259 u260 u261 u262 u263 u264 u265 u266 u267 u268 u269 u270 u271 u272 u273 u274 u275 u276 u277 u278 u279 u280 u281 u282 u283 u284 u285 u286 u287 u288 u289 u290 u291 u292 u293 u294 u295 u296 u297 u298 u299 u300 u301 u302 u303 u304 u305 u306 u307 u308 u309 u310 u311 u312 u313 u314 u315 u316 u317 u318 u319 u320 u321 u322 u323 u324 u325 u326 u327 u328 u329 u330 u331 u332 u333 u334 u335 u336 u337 u338 u339 u340 u341 u342 u343 u344 u345 u346 u347 u348 u349 u350 u351 u352 u353 u354 : Value} {Q : Exit → Act → World → Prop}
    (hQ : ∀ ⦃x8 x11 x15 x16 x17 x18 x19 x20 x21 x22 x23 x24 x94 x95 x96 x97 x98 x99 x100 x101 x102 x103 x104 x105 x106 x107 x108 x109 x110 x111 x112 x113 x114 x115 x116 x117 x118 x119 x120 x121 x122 x123 x124 x125 x126 x127 x128 x129 x130 x131 x132 x133 x134 x135 x136 x137 x138 x139 x140 x141 x142 x143 x144 x145 x146 x147 x148 x149 x150 x151 x152 x153 x154 x155 x156 x157 x158 x159 x160 x161 x162 x163 x164 x165 x166 x167 x168 x169 x170 x171 x172 x173 : Value⦄ ⦃wq : World⦄, (∃ f', BP w wq K n f' x11 f' A 3 c ∧ ∀ i, i < n → (f' i).puts ≤ (f i).puts + 1) → w3.heap.size ≤ wq.heap.size → Q .normal { tmps := #[u0, u1, u2, u3, u4, u5, u6, u7, x8, .pointer (some ⟨K, 0, none⟩), u10, x11, u12, .pointer (some ⟨A, 0, none⟩), .int .i64 cpu, x15, x16, x17, x18, x19, x20, x21, x22, x23, x24, u25, u26, u27, u28, u29, u30, u31, u32, u33, u34, u35, u36, u37, u38, u39, u40, u41, u42, u43, u44, u45, u46, u47, u48, u49, u50, u51, u52, u53, u54, u55, u56, u57, u58, u59, u60, u61, u62, u63, u64, u65, u66, u67, u68, u69, u70, u71, u72, u73, u74, u75, u76, u77, u78, u79, u80, u81, u82, u83, u84, u85, u86, u87, u88, u89, u90, u91, u92, u93, x94, x95, x96, x97, x98, x99, x100, x101, x102, x103, x104, x105, x106, x107, x108, x109, x110, x111, x112, x113, x114, x115, x116, x117, x118, x119, x120, x121, x122, x123, x124, x125, x126, x127, x128, x129, x130, x131, x132, x133, x134, x135, x136, x137, x138, x139, x140, x141, x142, x143, x144, x145, x146, x147, x148, x149, x150, x151, x152, x153, x154, x155, x156, x157, x158, x159, x160, x161, x162, x163, x164, x165, x166, x167, x168, x169, x170, x171, x172, x173, u174, u175, u176, u177, u178, u179, u180, u181, u182, u183, u184, u185, u186, u187, u188, u189, u190, u191, u192, u193, u194, u195, u196, u197, u198, u199, u200, u201, u202, u203, u204, u205, u206, u207, u208, u209, u210, u211, u212, u213, u214, u215, u216, u217, u218, u219, u220, u221, u222, u223, u224, u225, u226, u227, u228, u229, u230, u231, u232, u233, u234, u235, u236, u237, u238, u239, u240, u241, u242, u243, u244, u245, u246, u247, u248, u249, u250, u251, u252, u253, u254, u255, u256, u257, u258, u259, u260, u261, u262, u263, u264, u265, u266, u267, u268, u269, u270, u271, u272, u273, u274, u275, u276, u277, u278, u279, u280, u281, u282, u283, u284, u285, u286, u287, u288, u289, u290, u291, u292, u293, u294, u295, u296, u297, u298, u299, u300, u301, u302, u303, u304, u305, u306, u307, u308, u309, u310, u311, u312, u313, u314, u315, u316, u317, u318, u319, u320, u321, u322, u323, u324, u325, u326, u327, u328, u329, u330, u331, u332, u333, u334, u335, u336, u337, u338, u339, u340, u341, u342, u343, u344, u345, u346, u347, u348, u349, u350, u351, u352, u353, u354], defers := [] } wq) :
    Code.wp Tryz.prog (codeOf [1, 1, 1, 1, 1, 1, 0, 1, 1, 1, 1, 0, 1, 1, 1, 0, 1] (Tryz.f3.body.getD .skip)) Q { tmps := #[u0, u1, u2, u3, u4, u5, u6, u7, u8, .pointer (some ⟨K, 0, none⟩), u10, m, u12, .pointer (some ⟨A, 0, none⟩), .int .i64 cpu, u15, u16, u17, u18, u19, u20, u21, u22, u23, u24, u25, u26, u27, u28, u29, u30, u31, u32, u33, u34, u35, u36, u37, u38, u39, u40, u41, u42, u43, u44, u45, u46, u47, u48, u49, u50, u51, u52, u53, u54, u55, u56, u57, u58, u59, u60, u61, u62, u63, u64, u65, u66, u67, u68, u69, u70, u71, u72, u73, u74, u75, u76, u77, u78, u79, u80, u81, u82, u83, u84, u85, u86, u87, u88, u89, u90, u91, u92, u93, .int .u64 (U % 4), u95, u96, u97, u98, u99, u100, u101, u102, u103, u104, u105, u106, u107, u108, u109, u110, u111, u112, u113, u114, u115, u116, u117, u118, u119, u120, u121, u122, u123, u124, u125, u126, u127, u128, u129, u130, u131, u132, u133, u134, u135, u136, u137, u138, u139, u140, u141, u142, u143, u144, u145, u146, u147, u148, u149, u150, u151, u152, u153, u154, u155, u156, u157, u158, u159, u160, u161, u162, u163, u164, u165, u166, u167, u168, u169, u170, u171, u172, u173, u174, u175, u176, u177, u178, u179, u180, u181, u182, u183, u184, u185, u186, u187, u188, u189, u190, u191, u192, u193, u194, u195, u196, u197, u198, u199, u200, u201, u202, u203, u204, u205, u206, u207, u208, u209, u210, u211, u212, u213, u214, u215, u216, u217, u218, u219, u220, u221, u222, u223, u224, u225, u226, u227, u228, u229, u230, u231, u232, u233, u234, u235, u236, u237, u238, u239, u240, u241, u242, u243, u244, u245, u246, u247, u248, u249, u250, u251, u252, u253, u254, u255, u256, u257, u258, u259, u260, u261, u262, u263, u264, u265, u266, u267, u268, u269, u270, u271, u272, u273, u274, u275, u276, u277, u278, u279, u280, u281, u282, u283, u284, u285, u286, u287, u288, u289, u290, u291, u292, u293, u294, u295, u296, u297, u298, u299, u300, u301, u302, u303, u304, u305, u306, u307, u308, u309, u310, u311, u312, u313, u314, u315, u316, u317, u318, u319, u320, u321, u322, u323, u324, u325, u326, u327, u328, u329, u330, u331, u332, u333, u334, u335, u336, u337, u338, u339, u340, u341, u342, u343, u344, u345, u346, u347, u348, u349, u350, u351, u352, u353, u354], defers := [] } w3 := by
  have HT := Lib.hid hT
  have HP := Lib.hid hP
  have HA := Lib.hid ha
  have HId := Lib.hid hid
  have HPu := Lib.hid hp
  have HQ := Lib.hid hQ
  have HC1 := Lib.hid hc1
  have HC2 := Lib.hid hc2
  clear hT hP ha hid hp hQ hc1 hc2
  have HU0 := Lib.hid hU0
  clear hU0
  simp only [codeOf, Tryz.f3, Option.getD_some]
  have hq : U % 4 = 0 ∨ U % 4 = 1 ∨ U % 4 = 2 ∨ U % 4 = 3 := by have := HU0.out; omega
  rcases hq with h | h | h | h
  · rw [h]
    clear h
    go_upto_if 112 with (fail)
    refine wp_cond (t := true) rfl ?_
    simp only [if_true]
    refine wp_skip ?_
    go_upto_if 112 with (fail)
    refine wp_cond (t := true) rfl ?_
    simp only [if_true]
    refine bplays_put HT.out HP.out HC1.out HC2.out HA.out HId.out HPu.out ?_
    intro p8 p11 p15 p16 p17 p18 p19 p115 p116 p117 p118 p119 p120 p121 p122 p123 p124 p125 p126 p127 p128 p129 p130 p131 p132 p133 p134 p135 p136 p137 p138 p139 p140 p141 p142 p143 p144 p145 wq h1 h3
    go_wp2
    exact HQ.out h1 h3
  · rw [h]
    clear h
    go_upto_if 112 with (fail)
    refine wp_cond (t := false) rfl ?_
    simp only [Bool.false_eq_true, if_false]
    go_upto_if 112 with (fail)
    refine wp_cond (t := true) rfl ?_
    simp only [if_true]
    refine bplays_put HT.out HP.out HC1.out HC2.out HA.out HId.out HPu.out ?_
    intro p8 p11 p15 p16 p17 p18 p19 p115 p116 p117 p118 p119 p120 p121 p122 p123 p124 p125 p126 p127 p128 p129 p130 p131 p132 p133 p134 p135 p136 p137 p138 p139 p140 p141 p142 p143 p144 p145 wq h1 h3
    go_wp2
    exact HQ.out h1 h3
  · rw [h]
    clear h
    go_upto_if 112 with (fail)
    refine wp_cond (t := false) rfl ?_
    simp only [Bool.false_eq_true, if_false]
    go_upto_if 112 with (fail)
    refine wp_cond (t := false) rfl ?_
    simp only [Bool.false_eq_true, if_false]
    go_upto_if 146 with (fail)
    refine wp_cond (t := true) rfl ?_
    simp only [if_true]
    refine bplays_del HT.out HP.out HC1.out HC2.out HA.out HId.out HPu.out ?_
    intro p8 p11 p20 p21 p22 p148 p149 p150 p151 p152 p153 p154 p155 p156 p157 p158 p159 p160 p161 p162 p163 p164 p165 p166 p167 p168 p169 p170 p171 p172 p173 wq h1 h3
    go_wp2
    exact HQ.out h1 h3
  · rw [h]
    clear h
    go_upto_if 112 with (fail)
    refine wp_cond (t := false) rfl ?_
    simp only [Bool.false_eq_true, if_false]
    go_upto_if 112 with (fail)
    refine wp_cond (t := false) rfl ?_
    simp only [Bool.false_eq_true, if_false]
    go_upto_if 146 with (fail)
    refine wp_cond (t := false) rfl ?_
    simp only [Bool.false_eq_true, if_false]
    refine bplays_catch HT.out HP.out HC1.out HC2.out HA.out HId.out HPu.out ?_
    intro p8 p11 p23 p24 p95 p96 p97 p98 p99 p100 p101 p102 p103 p104 p105 p106 p107 p108 p109 p110 p111 wq h1 h3
    go_wp2
    exact HQ.out h1 h3
end Go.Proofs.YtnndofeomakpiaaGreatDoor

/-
  BankPlays: Put.
-/
import Derived.Test.YtnndofeomakpiaaGreatDoorBqE
import Derived.Deep.RegionHeld3
namespace Go.Proofs.YtnndofeomakpiaaGreatDoor
open Go.RowKit Go.Maps Go.BigFrame

attribute [local go_sem] Oper.semAt_some

set_option maxRecDepth 100000 in
set_option maxHeartbeats 4000000 in
theorem bplays_put {w w3 : World} {K n A : Nat} {c : Nat → Value} {f : Nat → Wh} {m : Value} {id at' : Int} {cpu : Int} (hT : Mk.Tab w) (hP : BP w w3 K n f m f A 3 c) (hc1 : c 1 = .int .i64 id) (hc2 : c 2 = .int .u64 at') (ha : Wd at') (hid : wf64 id) (hp : ∀ i, i < n → (f i).puts < 4611686018427387904)
    {u0 u1 u2 u3 u4 u5 u6 u7 u8 u10 u12 u15 u16 u17 u18 u19 u20 u21 u22 u23 u24 u25 u26 u27 u28 u29 u30 u31 u32 u33 u34 u35 u36 u37 u38 u39 u40 u41 u42 u43 u44 u45 u46 u47 u48 u49 u50 u51 u52 u53 u54 u55 u56 u57 u58 u59 u60 u61 u62 u63 u64 u65 u66 u67 u68 u69 u70 u71 u72 u73 u74 u75 u76 u77 u78 u79 u80 u81 u82 u83 u84 u85 u86 u87 u88 u89 u90 u91 u92 u93 u94 u95 u96 u97 u98 u99 u100 u101 u102 u103 u104 u105 u106 u107 u108 u109 u110 u111 u112 u113 u114 u115 u116 u117 u118 u119 u120 u121 u122 u123 u124 u125 u126 u127 u128 u129 u130 u131 u132 u133 u134 u135 u136 u137 u138 u139 u140 u141 u142 u143 u144 u145 u146 u147 u148 u149 u150 u151 u152 u153 u154 u155 u156 u157 u158 u159 u160 u161 u162 u163 u164 u165 u166 u167 u168 u169 u170 u171 u172 u173 u174 u175 u176 u177 u178 u179 u180 u181 u182 u183 u184 u185 u186 u187 u188 u189 u190 u191 u192 u193 u194 u195 u196 u197 u198 u199 u200 u201 u202 u203 u204 u205 u206 u207 u208 u209 u210 u211 u212 u213 u214 u215 u216 u217 u218 u219 u220 u221 u222 u223 u224 u225 u226 u227 u228 u229 u230 u231 u232 u233 u234 u235 u236 u237 u238 u239 u240 u241 u242 u243 u244 u245 u246 u247 u248 u249 u250 u251 u252 u253 u254 u255 u256 u257 u258 u259 u260 u261 u262 u263 u264 u265 u266 u267 u268 u269 u270 u271 u272 u273 u274 u275 u276 u277 u278 u279 u280 u281 u282 u283 u284 u285 u286 u287 u288 u289 u290 u291 u292 u293 u294 u295 u296 u297 u298 u299 u300 u301 u302 u303 u304 u305 u306 u307 u308 u309 u310 u311 u312 u313 u314 u315 u316 u317 u318 u319 u320 u321 u322 u323 u324 u325 u326 u327 u328 u329 u330 u331 u332 u333 u334 u335 u336 u337 u338 u339 u340 u341 u342 u343 u344 u345 u346 u347 u348 u349 u350 u351 u352 u353 u354 : Value} {Q : Exit → Act → World → Prop}
    (hQ : ∀ ⦃x8 x11 x15 x16 x17 x18 x19 x115 x116 x117 x118 x119 x120 x121 x122 x123 x124 x125 x126 x127 x128 x129 x130 x131 x132 x133 x134 x135 x136 x137 x138 x139 x140 x141 x142 x143 x144 x145 : Value⦄ ⦃wq : World⦄, (∃ f', BP w wq K n f' x11 f' A 3 c ∧ ∀ i, i < n → (f' i).puts ≤ (f i).puts + 1) → w3.heap.size ≤ wq.heap.size → Q .normal { tmps := #[u0, u1, u2, u3, u4, u5, u6, u7, x8, .pointer (some ⟨K, 0, none⟩), u10, x11, u12, .pointer (some ⟨A, 0, none⟩), .int .i64 cpu, x15, x16, x17, x18, x19, u20, u21, u22, u23, u24, u25, u26, u27, u28, u29, u30, u31, u32, u33, u34, u35, u36, u37, u38, u39, u40, u41, u42, u43, u44, u45, u46, u47, u48, u49, u50, u51, u52, u53, u54, u55, u56, u57, u58, u59, u60, u61, u62, u63, u64, u65, u66, u67, u68, u69, u70, u71, u72, u73, u74, u75, u76, u77, u78, u79, u80, u81, u82, u83, u84, u85, u86, u87, u88, u89, u90, u91, u92, u93, u94, u95, u96, u97, u98, u99, u100, u101, u102, u103, u104, u105, u106, u107, u108, u109, u110, u111, u112, u113, u114, x115, x116, x117, x118, x119, x120, x121, x122, x123, x124, x125, x126, x127, x128, x129, x130, x131, x132, x133, x134, x135, x136, x137, x138, x139, x140, x141, x142, x143, x144, x145, u146, u147, u148, u149, u150, u151, u152, u153, u154, u155, u156, u157, u158, u159, u160, u161, u162, u163, u164, u165, u166, u167, u168, u169, u170, u171, u172, u173, u174, u175, u176, u177, u178, u179, u180, u181, u182, u183, u184, u185, u186, u187, u188, u189, u190, u191, u192, u193, u194, u195, u196, u197, u198, u199, u200, u201, u202, u203, u204, u205, u206, u207, u208, u209, u210, u211, u212, u213, u214, u215, u216, u217, u218, u219, u220, u221, u222, u223, u224, u225, u226, u227, u228, u229, u230, u231, u232, u233, u234, u235, u236, u237, u238, u239, u240, u241, u242, u243, u244, u245, u246, u247, u248, u249, u250, u251, u252, u253, u254, u255, u256, u257, u258, u259, u260, u261, u262, u263, u264, u265, u266, u267, u268, u269, u270, u271, u272, u273, u274, u275, u276, u277, u278, u279, u280, u281, u282, u283, u284, u285, u286, u287, u288, u289, u290, u291, u292, u293, u294, u295, u296, u297, u298, u299, u300, u301, u302, u303, u304, u305, u306, u307, u308, u309, u310, u311, u312, u313, u314, u315, u316, u317, u318, u319, u320, u321, u322, u323, u324, u325, u326, u327, u328, u329, u330, u331, u332, u333, u334, u335, u336, u337, u338, u339, u340, u341, u342, u343, u344, u345, u346, u347, u348, u349, u350, u351, u352, u353, u354], defers := [] } wq) :
    Code.wp Tryz.prog (codeOf [1, 1, 1, 1, 1, 1, 0, 1, 1, 1, 1, 0, 1, 1, 1, 0, 1, 1, 1, 0] (Tryz.f3.body.getD .skip)) Q { tmps := #[u0, u1, u2, u3, u4, u5, u6, u7, u8, .pointer (some ⟨K, 0, none⟩), u10, m, u12, .pointer (some ⟨A, 0, none⟩), .int .i64 cpu, u15, u16, u17, u18, u19, u20, u21, u22, u23, u24, u25, u26, u27, u28, u29, u30, u31, u32, u33, u34, u35, u36, u37, u38, u39, u40, u41, u42, u43, u44, u45, u46, u47, u48, u49, u50, u51, u52, u53, u54, u55, u56, u57, u58, u59, u60, u61, u62, u63, u64, u65, u66, u67, u68, u69, u70, u71, u72, u73, u74, u75, u76, u77, u78, u79, u80, u81, u82, u83, u84, u85, u86, u87, u88, u89, u90, u91, u92, u93, u94, u95, u96, u97, u98, u99, u100, u101, u102, u103, u104, u105, u106, u107, u108, u109, u110, u111, u112, u113, u114, u115, u116, u117, u118, u119, u120, u121, u122, u123, u124, u125, u126, u127, u128, u129, u130, u131, u132, u133, u134, u135, u136, u137, u138, u139, u140, u141, u142, u143, u144, u145, u146, u147, u148, u149, u150, u151, u152, u153, u154, u155, u156, u157, u158, u159, u160, u161, u162, u163, u164, u165, u166, u167, u168, u169, u170, u171, u172, u173, u174, u175, u176, u177, u178, u179, u180, u181, u182, u183, u184, u185, u186, u187, u188, u189, u190, u191, u192, u193, u194, u195, u196, u197, u198, u199, u200, u201, u202, u203, u204, u205, u206, u207, u208, u209, u210, u211, u212, u213, u214, u215, u216, u217, u218, u219, u220, u221, u222, u223, u224, u225, u226, u227, u228, u229, u230, u231, u232, u233, u234, u235, u236, u237, u238, u239, u240, u241, u242, u243, u244, u245, u246, u247, u248, u249, u250, u251, u252, u253, u254, u255, u256, u257, u258, u259, u260, u261, u262, u263, u264, u265, u266, u267, u268, u269, u270, u271, u272, u273, u274, u275, u276, u277, u278, u279, u280, u281, u282, u283, u284, u285, u286, u287, u288, u289, u290, u291, u292, u293, u294, u295, u296, u297, u298, u299, u300, u301, u302, u303, u304, u305, u306, u307, u308, u309, u310, u311, u312, u313, u314, u315, u316, u317, u318, u319, u320, u321, u322, u323, u324, u325, u326, u327, u328, u329, u330, u331, u332, u333, u334, u335, u336, u337, u338, u339, u340, u341, u342, u343, u344, u345, u346, u347, u348, u349, u350, u351, u352, u353, u354], defers := [] } w3 := by
  have HT := Lib.hid hT
  have HP := Lib.hid hP
  have HA := Lib.hid ha
  have HId := Lib.hid hid
  have HPu := Lib.hid hp
  have HQ := Lib.hid hQ
  have HC1 := Lib.hid hc1
  have HC2 := Lib.hid hc2
  clear hT hP ha hid hp hQ hc1 hc2
  simp only [codeOf, Tryz.f3, Option.getD_some]
  have a1 := (HP.out.act 1 (by decide)).trans (congrArg some HC1.out)
  have a2 := (HP.out.act 2 (by decide)).trans (congrArg some HC2.out)
  obtain ⟨⟨lv, sl, sa, sd⟩, E, g, h1, h2⟩ := HP.out.put_both cpu HId.out HA.out HPu.out
  obtain ⟨a, cp, rfl⟩ := HP.out.rb.form
  simp only [spV] at h1 h2
  have H1 := Lib.hid h1
  have H2 := Lib.hid h2
  clear h1 h2
  go_wp2_with fail
  with_reducible refine H1.out.mono ?_
  rintro e w4 ⟨m', rfl, hp4, hc4⟩
  obtain ⟨a4, cp4, rfl⟩ := hp4.rb.form
  have HP4 := Lib.hid hp4
  have HC4 := Lib.hid hc4
  clear hp4 hc4 a1 a2
  have hq5 := (Ch.refl [] w4).alloc (.cells #[.int .i64 lv, .int .i64 sl, .int .u64 sa, .int .u64 sd] 37)
  have hn2 := Four.new w4 (.int .i64 lv) (.int .i64 sl) (.int .u64 sa) (.int .u64 sd) 37
  have a1 := ((HP4.out.quiet hq5).act 1 (by decide)).trans (congrArg some HC1.out)
  have a2 := ((HP4.out.quiet hq5).act 2 (by decide)).trans (congrArg some HC2.out)
  have HN2 := Lib.hid hn2
  have HQ5 := Lib.hid hq5
  clear hn2 hq5
  go_wp2_with fail
  with_reducible refine (H2.out _ _ _ HP4.out HQ5.out).mono ?_
  rintro e w6 ⟨rfl, ⟨f', hp6, hpu6⟩, hc6⟩
  have HS6 := Lib.hid (Nat.le_trans HC4.out.size (Nat.le_trans HQ5.out.size hc6.size))
  have HN4 := Lib.hid (HN2.out.chP hc6 (fun e => by have := (HP.out.bl.su e).2; have := HC4.out.size; omega))
  have HP6 := Lib.hid hp6
  have HPu6 := Lib.hid hpu6
  clear hp6 hc6 a1 a2 hpu6
  clear HN2 HQ5 H1 H2 HP4 HC4
  generalize w4.heap.size = X at *
  have hf7 := Four.new w6 (.int .i64 lv) (.int .i64 sl) (.int .u64 sa) (.int .u64 sd) 40
  have hq7 := (Ch.refl [] w6).alloc (.cells #[.int .i64 lv, .int .i64 sl, .int .u64 sa, .int .u64 sd] 40)
  obtain ⟨w7, hw7⟩ : ∃ w7, w6.alloc (.cells #[.int .i64 lv, .int .i64 sl, .int .u64 sa, .int .u64 sd] 40) = w7 := ⟨_, rfl⟩
  rw [hw7] at hf7 hq7
  have HF7 := Lib.hid hf7
  have HN6 := Lib.hid (HN4.out.ch hq7 (by simp))
  have HP7 := Lib.hid (HP6.out.quiet hq7)
  have HS7 := Lib.hid (Nat.le_trans HS6.out hq7.size)
  have HW := Lib.hid hw7
  clear hf7 hq7
  obtain ⟨G, f7, hf1, hf2⟩ := worlds_of w7
  have hx0 : ∀ g : G, (f7 g).cell? ⟨w6.heap.size, 0, none⟩ = some (.int .i64 lv) := fun g => (HF7.out.ch (hf1 g) (by simp)).c0
  have hx1 : ∀ g : G, (f7 g).cell? ⟨w6.heap.size, 1, none⟩ = some (.int .i64 sl) := fun g => (HF7.out.ch (hf1 g) (by simp)).c1
  have hx2 : ∀ g : G, (f7 g).cell? ⟨w6.heap.size, 2, none⟩ = some (.int .u64 sa) := fun g => (HF7.out.ch (hf1 g) (by simp)).c2
  have hx3 : ∀ g : G, (f7 g).cell? ⟨w6.heap.size, 3, none⟩ = some (.int .u64 sd) := fun g => (HF7.out.ch (hf1 g) (by simp)).c3
  have hy0 : ∀ g : G, (f7 g).cell? ⟨X, 0, none⟩ = some (.int .i64 lv) := fun g => (HN6.out.ch (hf1 g) (by simp)).c0
  have hy1 : ∀ g : G, (f7 g).cell? ⟨X, 1, none⟩ = some (.int .i64 sl) := fun g => (HN6.out.ch (hf1 g) (by simp)).c1
  have hy2 : ∀ g : G, (f7 g).cell? ⟨X, 2, none⟩ = some (.int .u64 sa) := fun g => (HN6.out.ch (hf1 g) (by simp)).c2
  have hy3 : ∀ g : G, (f7 g).cell? ⟨X, 3, none⟩ = some (.int .u64 sd) := fun g => (HN6.out.ch (hf1 g) (by simp)).c3
  have hne : Nonempty G := ⟨(hf2 w7 (Ch.refl _ _)).choose⟩
  have HX1 := Lib.hid hf1
  have HX2 := Lib.hid hf2
  have HQ7 := Ch.refl [] w7
  clear hf1 hf2 hw7
  go_wp2_with fail
  rw [HW.out]
  refine wp_region_worlds f7 (by kernel_rfl) (by kernel_rfl) (HX2.out _ HQ7.drew) ?_
  repeat (go_big_quiet_step (first
    | (with_reducible refine (ofs_any _ _ _ _ _).mono ?_; rintro r w' ⟨rfl, hcw⟩; exact ⟨rfl, HX2.out w' ((HX1.out _).trans hcw)⟩)))
  refine wpQuiet_nil ?_
  rintro _ ⟨gz, rfl⟩
  have HPz := Lib.hid (HP7.out.quiet (HX1.out gz))
  have HSz := Lib.hid (Nat.le_trans HS7.out (HX1.out gz).size)
  generalize f7 gz = wz at *
  clear hx0 hx1 hx2 hx3 hy0 hy1 hy2 hy3 hne HQ7
  go_wp2
  exact HQ.out ⟨_, HPz.out, HPu6.out⟩ HSz.out
end Go.Proofs.YtnndofeomakpiaaGreatDoor

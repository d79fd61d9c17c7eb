/-
  BankPlays: what Find tells.
-/
import Derived.Test.YtnndofeomakpiaaGreatDoorBqE
import Derived.Deep.RegionHeld3
namespace Go.Proofs.YtnndofeomakpiaaGreatDoor
open Go.RowKit Go.Maps Go.BigFrame

attribute [local go_sem] Oper.semAt_some

set_option maxRecDepth 100000 in
set_option maxHeartbeats 4000000 in
theorem bplays_t32 {w w3 : World} {K n A : Nat} {c : Nat → Value} {f : Nat → Wh} {m : Value} {id at' : Int} {X : Nat} (hT : Mk.Tab w) (hP : BP w w3 K n f m f A 3 c) (hc1 : c 1 = .int .i64 id) (hc2 : c 2 = .int .u64 at') (ha : Wd at') (hid : wf64 id) (hp : ∀ i, i < n → (f i).puts < 4611686018427387904) (hF : Four w3 X (.int .i64 ((ownS f n id).lv : Int)) (.int .i64 (ownS f n id).sl) (.int .u64 (ownS f n id).at') (.int .u64 (ownS f n id).due))
    {u0 u1 u2 u3 u4 u5 u6 u7 u8 u10 u12 u14 u15 u16 u17 u18 u19 u20 u21 u22 u23 u24 u29 u30 u31 u32 u33 u34 u35 u36 u37 u38 u39 u40 u41 u42 u43 u44 u45 u46 u47 u48 u49 u50 u51 u52 u53 u54 u55 u56 u57 u58 u59 u60 u61 u62 u63 u64 u65 u66 u67 u68 u69 u70 u71 u72 u73 u74 u75 u76 u77 u78 u79 u80 u81 u82 u83 u84 u85 u86 u87 u88 u89 u90 u91 u92 u93 u94 u95 u96 u97 u98 u99 u100 u101 u102 u103 u104 u105 u106 u107 u108 u109 u110 u111 u112 u113 u114 u115 u116 u117 u118 u119 u120 u121 u122 u123 u124 u125 u126 u127 u128 u129 u130 u131 u132 u133 u134 u135 u136 u137 u138 u139 u140 u141 u142 u143 u144 u145 u146 u147 u148 u149 u150 u151 u152 u153 u154 u155 u156 u157 u158 u159 u160 u161 u162 u163 u164 u165 u166 u167 u168 u169 u170 u171 u172 u173 u174 u175 u176 u177 u178 u179 u180 u181 u182 u183 u184 u185 u186 u187 u188 u189 u190 u191 u192 u193 u194 u195 u196 u197 u198 u199 u200 u201 u202 u203 u204 u205 u206 u207 u208 u209 u210 u211 u212 u213 u214 u215 u216 u217 u218 u219 u220 u221 u222 u223 u224 u225 u226 u227 u228 u229 u230 u231 u232 u233 u234 u235 u236 u237 u238 u239 u240 u241 u242 u243 u244 u245 u246 u247 u248 u249 u250 u251 u252 u253 u254 u255 u256 u257 u258 u259 u260 u261 u262 u263 u264 u265 u266 u267 u268 u269 u270 u271 u272 u273 u274 u275 u276 u277 u278 u279 u280 u281 u282 u283 u284 u285 u286 u287 u288 u289 u290 u291 u292 u293 u294 u295 u296 u297 u298 u299 u300 u301 u302 u303 u304 u305 u306 u307 u308 u309 u310 u311 u312 u313 u314 u315 u316 u317 u318 u319 u320 u321 u322 u323 u324 u325 u326 u327 u328 u329 u330 u331 u332 u333 u334 u335 u336 u337 u338 u339 u340 u341 u342 u343 u344 u345 u346 u347 u348 u349 u350 u351 u352 u353 u354 : Value} {Q : Exit → Act → World → Prop}
    (hQ : ∀ ⦃x8 x186 x187 x188 x189 x190 x191 x192 x193 x194 x195 x196 x197 x198 x199 x200 x201 x202 x203 x204 x205 x206 x207 x208 x209 x210 x211 x212 x213 x214 x215 x216 x217 x218 x219 x220 x221 x222 x223 x224 x225 : Value⦄ ⦃wq : World⦄, BP w wq K n f m f A 3 c → w3.heap.size ≤ wq.heap.size → Q .normal { tmps := #[u0, u1, u2, u3, u4, u5, u6, u7, x8, .pointer (some ⟨K, 0, none⟩), u10, m, u12, .pointer (some ⟨A, 0, none⟩), u14, u15, u16, u17, u18, u19, u20, u21, u22, u23, u24, .int .i64 (fR f n id), .int .i64 ((ownC f n id : Nat) : Int), .pointer (some ⟨X, 0, none⟩), .bool (ownB f n id), u29, u30, u31, u32, u33, u34, u35, u36, u37, u38, u39, u40, u41, u42, u43, u44, u45, u46, u47, u48, u49, u50, u51, u52, u53, u54, u55, u56, u57, u58, u59, u60, u61, u62, u63, u64, u65, u66, u67, u68, u69, u70, u71, u72, u73, u74, u75, u76, u77, u78, u79, u80, u81, u82, u83, u84, u85, u86, u87, u88, u89, u90, u91, u92, u93, u94, u95, u96, u97, u98, u99, u100, u101, u102, u103, u104, u105, u106, u107, u108, u109, u110, u111, u112, u113, u114, u115, u116, u117, u118, u119, u120, u121, u122, u123, u124, u125, u126, u127, u128, u129, u130, u131, u132, u133, u134, u135, u136, u137, u138, u139, u140, u141, u142, u143, u144, u145, u146, u147, u148, u149, u150, u151, u152, u153, u154, u155, u156, u157, u158, u159, u160, u161, u162, u163, u164, u165, u166, u167, u168, u169, u170, u171, u172, u173, u174, u175, u176, u177, u178, u179, u180, u181, u182, u183, u184, u185, x186, x187, x188, x189, x190, x191, x192, x193, x194, x195, x196, x197, x198, x199, x200, x201, x202, x203, x204, x205, x206, x207, x208, x209, x210, x211, x212, x213, x214, x215, x216, x217, x218, x219, x220, x221, x222, x223, x224, x225, u226, u227, u228, u229, u230, u231, u232, u233, u234, u235, u236, u237, u238, u239, u240, u241, u242, u243, u244, u245, u246, u247, u248, u249, u250, u251, u252, u253, u254, u255, u256, u257, u258, u259, u260, u261, u262, u263, u264, u265, u266, u267, u268, u269, u270, u271, u272, u273, u274, u275, u276, u277, u278, u279, u280, u281, u282, u283, u284, u285, u286, u287, u288, u289, u290, u291, u292, u293, u294, u295, u296, u297, u298, u299, u300, u301, u302, u303, u304, u305, u306, u307, u308, u309, u310, u311, u312, u313, u314, u315, u316, u317, u318, u319, u320, u321, u322, u323, u324, u325, u326, u327, u328, u329, u330, u331, u332, u333, u334, u335, u336, u337, u338, u339, u340, u341, u342, u343, u344, u345, u346, u347, u348, u349, u350, u351, u352, u353, u354], defers := [] } wq) :
    Code.wp Tryz.prog (codeOf [1, 1, 1, 1, 1, 1, 0, 1, 1, 1, 1, 0, 1, 1, 1, 1, 1, 1, 0] (Tryz.f3.body.getD .skip)) Q { tmps := #[u0, u1, u2, u3, u4, u5, u6, u7, u8, .pointer (some ⟨K, 0, none⟩), u10, m, u12, .pointer (some ⟨A, 0, none⟩), u14, u15, u16, u17, u18, u19, u20, u21, u22, u23, u24, .int .i64 (fR f n id), .int .i64 ((ownC f n id : Nat) : Int), .pointer (some ⟨X, 0, none⟩), .bool (ownB f n id), u29, u30, u31, u32, u33, u34, u35, u36, u37, u38, u39, u40, u41, u42, u43, u44, u45, u46, u47, u48, u49, u50, u51, u52, u53, u54, u55, u56, u57, u58, u59, u60, u61, u62, u63, u64, u65, u66, u67, u68, u69, u70, u71, u72, u73, u74, u75, u76, u77, u78, u79, u80, u81, u82, u83, u84, u85, u86, u87, u88, u89, u90, u91, u92, u93, u94, u95, u96, u97, u98, u99, u100, u101, u102, u103, u104, u105, u106, u107, u108, u109, u110, u111, u112, u113, u114, u115, u116, u117, u118, u119, u120, u121, u122, u123, u124, u125, u126, u127, u128, u129, u130, u131, u132, u133, u134, u135, u136, u137, u138, u139, u140, u141, u142, u143, u144, u145, u146, u147, u148, u149, u150, u151, u152, u153, u154, u155, u156, u157, u158, u159, u160, u161, u162, u163, u164, u165, u166, u167, u168, u169, u170, u171, u172, u173, u174, u175, u176, u177, u178, u179, u180, u181, u182, u183, u184, u185, u186, u187, u188, u189, u190, u191, u192, u193, u194, u195, u196, u197, u198, u199, u200, u201, u202, u203, u204, u205, u206, u207, u208, u209, u210, u211, u212, u213, u214, u215, u216, u217, u218, u219, u220, u221, u222, u223, u224, u225, u226, u227, u228, u229, u230, u231, u232, u233, u234, u235, u236, u237, u238, u239, u240, u241, u242, u243, u244, u245, u246, u247, u248, u249, u250, u251, u252, u253, u254, u255, u256, u257, u258, u259, u260, u261, u262, u263, u264, u265, u266, u267, u268, u269, u270, u271, u272, u273, u274, u275, u276, u277, u278, u279, u280, u281, u282, u283, u284, u285, u286, u287, u288, u289, u290, u291, u292, u293, u294, u295, u296, u297, u298, u299, u300, u301, u302, u303, u304, u305, u306, u307, u308, u309, u310, u311, u312, u313, u314, u315, u316, u317, u318, u319, u320, u321, u322, u323, u324, u325, u326, u327, u328, u329, u330, u331, u332, u333, u334, u335, u336, u337, u338, u339, u340, u341, u342, u343, u344, u345, u346, u347, u348, u349, u350, u351, u352, u353, u354], defers := [] } w3 := by
  have HT := Lib.hid hT
  have HP := Lib.hid hP
  have HA := Lib.hid ha
  have HId := Lib.hid hid
  have HPu := Lib.hid hp
  have HQ := Lib.hid hQ
  have HC1 := Lib.hid hc1
  have HC2 := Lib.hid hc2
  clear hT hP ha hid hp hQ hc1 hc2
  have HF := Lib.hid hF
  clear hF
  simp only [codeOf, Tryz.f3, Option.getD_some]
  rcases own_look HP.out.bl id with ⟨e1, e2, e3, e4⟩ | ⟨b, j, x, hbn, e1, e2, e3, e4, hjl, hjx, e5⟩
  · have hq := HQ.out
    simp only [e1, e2, e3] at hq
    have HQ' := Lib.hid hq
    clear HQ hq
    rw [e1, e2, e3]
    clear e1 e2 e3 e4
    obtain ⟨G, f', hf1, hf2⟩ := worlds_of w3
    have hne : Nonempty G := ⟨(hf2 w3 (Ch.refl _ _)).choose⟩
    have HX1 := Lib.hid hf1
    have HX2 := Lib.hid hf2
    have HR3 := Ch.refl [] w3
    clear hf1 hf2
    go_wp2_with fail
    refine wp_region_worlds f' (by kernel_rfl) (by kernel_rfl) (HX2.out _ HR3.drew) ?_
    repeat (go_big_quiet_step (fail))
    refine wpQuiet_nil ?_
    rintro _ ⟨gz, rfl⟩
    have HPz := Lib.hid (HP.out.quiet (HX1.out gz))
    have HSz := Lib.hid (HX1.out gz).size
    generalize f' gz = wz at *
    clear hne HR3
    go_wp2
    exact HQ'.out HPz.out HSz.out
  · have hq := HQ.out
    simp only [e1, e2, e3] at hq
    have HQ' := Lib.hid hq
    clear HQ hq
    rw [e1, e2, e3]
    have hf := HF.out
    rw [e5] at hf
    have HF' := Lib.hid hf
    obtain ⟨gb, cp, av, lc, cc, rfl, -, hgb, r0, r1, hlc, hrt⟩ := HP.out.rb.at hbn
    obtain ⟨g, cg, hv, _, _, _, _, c0, c1, c2, c3, c4⟩ := hrt.cells hjx
    obtain ⟨rfl, rfl, rfl⟩ : av = some ⟨g, 0, none⟩ ∧ lc = (f b).L.length ∧ cc = cg := by simpa using hv
    have hgM : g < w3.heap.size := cell_lt c1
    clear hlc hv
    obtain ⟨ln, hln⟩ : ∃ l, l = (f b).L.length := ⟨_, rfl⟩
    obtain ⟨nw, hnw⟩ : ∃ y, y = (f b).now := ⟨_, rfl⟩
    have hl256 := HP.out.lens b hbn
    rw [← hln] at hjl r1
    rw [← hnw] at r0
    have hj0 : (0 : Int) ≤ (j : Int) := by omega
    have hj1 : (j : Int) < (ln : Int) := by omega
    have hb0 : (0 : Int) ≤ (b : Int) := by omega
    have hb1 : (b : Int) < (n : Int) := by omega
    have hd0 : decide ((0 : Int) ≤ (b : Int)) = true := decide_eq_true hb0
    have hd1 : decide ((b : Int) ≥ 0) = true := decide_eq_true hb0
    generalize x.sp.lv = lv at *
    generalize x.sp.sl = sl at *
    generalize x.sp.at' = sa at *
    generalize x.sp.due = sd at *
    obtain ⟨G, f', hf1, hf2⟩ := worlds_of w3
    have hfd : ∀ gg : G, Calls Tryz.prog 17 #[.agg #[.int .u64 nw, .slice (some ⟨g, 0, none⟩) ln cc], .int .i64 id] (f' gg) fun e w' => e = .returned (.int .i64 (j : Int)) ∧ Ch [] (f' gg) w' := fun gg => by
      have := rfind_any nw id (hrt.quiet (hf1 gg)) hl256
      rw [e4, ← hln] at this
      exact this
    have hcell : ∀ (k o : Nat) (y : Value), w3.cell? ⟨k, o, none⟩ = some y → ∀ gg : G, (f' gg).cell? ⟨k, o, none⟩ = some y := fun k o y hy gg => ((ChP.quiet (S := fun _ => False) (hf1 gg)).cell (p := ⟨k, o, none⟩) (cell_lt hy) (fun e => e)).trans hy
    have hr1 := hcell _ _ _ c1
    have hr2 := hcell _ _ _ c2
    have hr3 := hcell _ _ _ c3
    have hr4 := hcell _ _ _ c4
    have hm0 := hcell _ _ _ r0
    have hm1 := hcell _ _ _ r1
    have ha1 := hcell _ _ _ ((HP.out.act 1 (by decide)).trans (congrArg some HC1.out))
    have hy0 : ∀ gg : G, (f' gg).cell? ⟨X, 0, none⟩ = some (.int .i64 lv) := fun gg => (HF'.out.ch (hf1 gg) (by simp)).c0
    have hy1 : ∀ gg : G, (f' gg).cell? ⟨X, 1, none⟩ = some (.int .i64 sl) := fun gg => (HF'.out.ch (hf1 gg) (by simp)).c1
    have hy2 : ∀ gg : G, (f' gg).cell? ⟨X, 2, none⟩ = some (.int .u64 sa) := fun gg => (HF'.out.ch (hf1 gg) (by simp)).c2
    have hy3 : ∀ gg : G, (f' gg).cell? ⟨X, 3, none⟩ = some (.int .u64 sd) := fun gg => (HF'.out.ch (hf1 gg) (by simp)).c3
    have hne : Nonempty G := ⟨(hf2 w3 (Ch.refl _ _)).choose⟩
    have HX1 := Lib.hid hf1
    have HX2 := Lib.hid hf2
    have HFd := Lib.hid hfd
    have HR3 := Ch.refl [] w3
    clear hf1 hf2 hcell c0 c1 c2 c3 c4 hjx r0 r1 e1 e2 e3 e4 e5 hf hrt hln hnw hl256 hgM hgb hfd hbn hjl
    go_wp2_with fail
    refine wp_region_worlds f' (by kernel_rfl) (by kernel_rfl) (HX2.out _ HR3.drew) ?_
    repeat (go_big_quiet_step (first
      | (with_reducible refine (ofs_any _ _ _ _ _).mono ?_; rintro r w' ⟨rfl, hcw⟩; exact ⟨rfl, HX2.out w' ((HX1.out _).trans hcw)⟩)
      | (with_reducible refine (HFd.out _).mono ?_; rintro r w' ⟨rfl, hcw⟩; exact ⟨rfl, HX2.out w' ((HX1.out _).trans hcw)⟩)))
    refine wpQuiet_nil ?_
    rintro _ ⟨gz, rfl⟩
    have HPz := Lib.hid (HP.out.quiet (HX1.out gz))
    have HSz := Lib.hid (HX1.out gz).size
    generalize f' gz = wz at *
    clear hne HR3
    go_wp2
    exact HQ'.out HPz.out HSz.out
end Go.Proofs.YtnndofeomakpiaaGreatDoor

/-
  BankPlays: a part of a round over the CPUs (loop).
-/
import Derived.Test.YtnndofeomakpiaaGreatDoorBqL
import Derived.Deep.RegionHeld3
namespace Go.Proofs.YtnndofeomakpiaaGreatDoor
open Go.RowKit Go.Maps Go.BigFrame

attribute [local go_sem] Oper.semAt_some

set_option maxRecDepth 100000 in
set_option maxHeartbeats 4000000 in
theorem bplays_loop {w w3 : World} {K n A : Nat} {c : Nat → Value} {f : Nat → Wh} {m : Value} {at' : Int} {za : Option Addr} {zs : List Int} {zc : Nat} (hP : BP w w3 K n f m f A 3 c) (hc2 : c 2 = .int .u64 at') (hz : Mk.IntsAt w za zs) (hl10 : zs.length ≤ 10) (hn6 : n ≤ 6)
    {u1 u2 u4 u5 u6 u7 u8 u10 u12 u14 u15 u16 u17 u18 u19 u20 u21 u22 u23 u24 u25 u26 u27 u28 u35 u36 u37 u38 u39 u40 u41 u42 u43 u44 u45 u46 u47 u48 u49 u50 u51 u52 u53 u54 u55 u56 u57 u58 u59 u60 u61 u62 u63 u64 u65 u66 u67 u68 u69 u70 u71 u72 u73 u74 u75 u76 u77 u78 u79 u80 u81 u82 u83 u84 u85 u86 u87 u88 u89 u90 u91 u92 u93 u94 u95 u96 u97 u98 u99 u100 u101 u102 u103 u104 u105 u106 u107 u108 u109 u110 u111 u112 u113 u114 u115 u116 u117 u118 u119 u120 u121 u122 u123 u124 u125 u126 u127 u128 u129 u130 u131 u132 u133 u134 u135 u136 u137 u138 u139 u140 u141 u142 u143 u144 u145 u146 u147 u148 u149 u150 u151 u152 u153 u154 u155 u156 u157 u158 u159 u160 u161 u162 u163 u164 u165 u166 u167 u168 u169 u170 u171 u172 u173 u174 u175 u176 u177 u178 u179 u180 u181 u182 u183 u184 u185 u186 u187 u188 u189 u190 u191 u192 u193 u194 u195 u196 u197 u198 u199 u200 u201 u202 u203 u204 u205 u206 u207 u208 u209 u210 u211 u212 u213 u214 u215 u216 u217 u218 u219 u220 u221 u222 u223 u224 u225 u226 u227 u228 u229 u230 u231 u232 u233 u234 u235 u236 u237 u238 u239 u240 u241 u242 u243 u244 u245 u246 u247 u248 u249 u250 u251 u252 u253 u254 u255 u256 u257 u258 u259 u260 u261 u262 u263 u264 u265 u266 u267 u268 u269 u270 u271 u272 u273 u274 u275 u276 u277 u278 u279 u280 u281 u282 u283 u284 u285 u286 u287 u288 u289 u290 u291 u292 u293 u294 u295 u296 u297 u298 u299 u300 u301 u302 u303 u304 u305 u306 u307 u308 u309 u310 u311 u312 u313 u314 u315 u316 u317 u318 u319 u320 u321 u322 u323 u324 u325 u326 u327 u328 u329 u330 u331 u332 u333 u334 u335 u336 u337 u338 u339 u340 u341 u342 u343 u344 u345 u346 u347 u348 u349 u350 u351 u352 u353 u354 : Value} {Q : Exit → Act → World → Prop}
    (hQ : ∀ ⦃x8 x29 x30 x31 x32 x33 x34 x35 x36 x37 x38 x39 x226 x227 x228 x229 x230 x231 x232 x233 x234 x235 x236 x237 x238 x239 x240 x241 x242 x243 x244 x245 x246 x247 x248 x249 x250 x251 x252 x253 x254 x255 x256 x257 x258 x259 x260 x261 x262 x263 x264 x265 x266 x267 x268 x269 x270 x271 x272 x273 x274 x275 x276 x277 x278 x279 x280 x281 x282 x283 x284 x285 x286 x287 x288 x289 x290 x291 x292 x293 x294 x295 x296 x297 x298 x299 x300 x301 x302 x303 x304 x305 x306 x307 x308 x309 x310 : Value⦄ ⦃wq : World⦄, (∃ x b y b', x29 = .int .i64 ((lens f n : Nat) : Int) ∧ x30 = .int .u64 ((lateN f n at' : Nat) : Int) ∧ x31 = .int .u64 x ∧ x32 = .bool b ∧ x33 = .int .u64 y ∧ x34 = .bool b' ∧ LeastL f (dwn n n) x b ∧ LeastL f ((dwn n n).filter (inA zs)) y b') → BP w wq K n f m f A 3 c → w3.heap.size ≤ wq.heap.size → Q .normal { tmps := #[.int .i64 (n : Int), u1, u2, .slice za zs.length zc, u4, u5, u6, u7, x8, .pointer (some ⟨K, 0, none⟩), u10, m, u12, .pointer (some ⟨A, 0, none⟩), u14, u15, u16, u17, u18, u19, u20, u21, u22, u23, u24, u25, u26, u27, u28, x29, x30, x31, x32, x33, x34, x35, x36, x37, x38, x39, u40, u41, u42, u43, u44, u45, u46, u47, u48, u49, u50, u51, u52, u53, u54, u55, u56, u57, u58, u59, u60, u61, u62, u63, u64, u65, u66, u67, u68, u69, u70, u71, u72, u73, u74, u75, u76, u77, u78, u79, u80, u81, u82, u83, u84, u85, u86, u87, u88, u89, u90, u91, u92, u93, u94, u95, u96, u97, u98, u99, u100, u101, u102, u103, u104, u105, u106, u107, u108, u109, u110, u111, u112, u113, u114, u115, u116, u117, u118, u119, u120, u121, u122, u123, u124, u125, u126, u127, u128, u129, u130, u131, u132, u133, u134, u135, u136, u137, u138, u139, u140, u141, u142, u143, u144, u145, u146, u147, u148, u149, u150, u151, u152, u153, u154, u155, u156, u157, u158, u159, u160, u161, u162, u163, u164, u165, u166, u167, u168, u169, u170, u171, u172, u173, u174, u175, u176, u177, u178, u179, u180, u181, u182, u183, u184, u185, u186, u187, u188, u189, u190, u191, u192, u193, u194, u195, u196, u197, u198, u199, u200, u201, u202, u203, u204, u205, u206, u207, u208, u209, u210, u211, u212, u213, u214, u215, u216, u217, u218, u219, u220, u221, u222, u223, u224, u225, x226, x227, x228, x229, x230, x231, x232, x233, x234, x235, x236, x237, x238, x239, x240, x241, x242, x243, x244, x245, x246, x247, x248, x249, x250, x251, x252, x253, x254, x255, x256, x257, x258, x259, x260, x261, x262, x263, x264, x265, x266, x267, x268, x269, x270, x271, x272, x273, x274, x275, x276, x277, x278, x279, x280, x281, x282, x283, x284, x285, x286, x287, x288, x289, x290, x291, x292, x293, x294, x295, x296, x297, x298, x299, x300, x301, x302, x303, x304, x305, x306, x307, x308, x309, x310, u311, u312, u313, u314, u315, u316, u317, u318, u319, u320, u321, u322, u323, u324, u325, u326, u327, u328, u329, u330, u331, u332, u333, u334, u335, u336, u337, u338, u339, u340, u341, u342, u343, u344, u345, u346, u347, u348, u349, u350, u351, u352, u353, u354], defers := [] } wq) :
    Code.wp Tryz.prog (codeOf [1, 1, 1, 1, 1, 1, 0, 1, 1, 1, 1, 0, 1, 1, 1, 1, 1, 1, 1, 1, 1, 1, 1, 0] (Tryz.f3.body.getD .skip)) Q { tmps := #[.int .i64 (n : Int), u1, u2, .slice za zs.length zc, u4, u5, u6, u7, u8, .pointer (some ⟨K, 0, none⟩), u10, m, u12, .pointer (some ⟨A, 0, none⟩), u14, u15, u16, u17, u18, u19, u20, u21, u22, u23, u24, u25, u26, u27, u28, .int .i64 0, .int .u64 0, .int .u64 0, .bool false, .int .u64 0, .bool false, u35, u36, u37, u38, u39, u40, u41, u42, u43, u44, u45, u46, u47, u48, u49, u50, u51, u52, u53, u54, u55, u56, u57, u58, u59, u60, u61, u62, u63, u64, u65, u66, u67, u68, u69, u70, u71, u72, u73, u74, u75, u76, u77, u78, u79, u80, u81, u82, u83, u84, u85, u86, u87, u88, u89, u90, u91, u92, u93, u94, u95, u96, u97, u98, u99, u100, u101, u102, u103, u104, u105, u106, u107, u108, u109, u110, u111, u112, u113, u114, u115, u116, u117, u118, u119, u120, u121, u122, u123, u124, u125, u126, u127, u128, u129, u130, u131, u132, u133, u134, u135, u136, u137, u138, u139, u140, u141, u142, u143, u144, u145, u146, u147, u148, u149, u150, u151, u152, u153, u154, u155, u156, u157, u158, u159, u160, u161, u162, u163, u164, u165, u166, u167, u168, u169, u170, u171, u172, u173, u174, u175, u176, u177, u178, u179, u180, u181, u182, u183, u184, u185, u186, u187, u188, u189, u190, u191, u192, u193, u194, u195, u196, u197, u198, u199, u200, u201, u202, u203, u204, u205, u206, u207, u208, u209, u210, u211, u212, u213, u214, u215, u216, u217, u218, u219, u220, u221, u222, u223, u224, u225, u226, u227, u228, u229, u230, u231, u232, u233, u234, u235, u236, u237, u238, u239, u240, u241, u242, u243, u244, u245, u246, u247, u248, u249, u250, u251, u252, u253, u254, u255, u256, u257, u258, u259, u260, u261, u262, u263, u264, u265, u266, u267, u268, u269, u270, u271, u272, u273, u274, u275, u276, u277, u278, u279, u280, u281, u282, u283, u284, u285, u286, u287, u288, u289, u290, u291, u292, u293, u294, u295, u296, u297, u298, u299, u300, u301, u302, u303, u304, u305, u306, u307, u308, u309, u310, u311, u312, u313, u314, u315, u316, u317, u318, u319, u320, u321, u322, u323, u324, u325, u326, u327, u328, u329, u330, u331, u332, u333, u334, u335, u336, u337, u338, u339, u340, u341, u342, u343, u344, u345, u346, u347, u348, u349, u350, u351, u352, u353, u354], defers := [] } w3 := by
  have HQ := Lib.hid hQ
  have HP := Lib.hid hP
  have HC2 := Lib.hid hc2
  have HZ := Lib.hid hz
  clear hQ hP hc2 hz
  simp only [codeOf, Tryz.f3, Option.getD_some]
  obtain ⟨at0, hat0⟩ : ∃ y, y = at' := ⟨_, rfl⟩
  rw [← hat0] at HC2 HQ
  have HLens := Lib.hid HP.out.lens
  have hn1 : 1 ≤ n := by obtain ⟨G, cap, h1⟩ := HP.out.bl.bk; exact h1.n0
  clear hat0
  go_wp2_with fail
  go_loopw [29, 30, 31, 32, 33, 34, 35] (fun v29 v30 v31 v32 v33 v34 v35 wr => ∃ (j : Nat) (cI x y : Int) (b b' : Bool), cI + 1 + (j : Int) = (n : Int) ∧ v29 = .int .i64 ((sumF f n j : Nat) : Int) ∧ v30 = .int .u64 ((lateF f at0 n j : Nat) : Int) ∧ v31 = .int .u64 x ∧ v32 = .bool b ∧ v33 = .int .u64 y ∧ v34 = .bool b' ∧ v35 = .int .i64 cI ∧ -1 ≤ cI ∧
    LeastL f (dwn n j) x b ∧ LeastL f ((dwn n j).filter (inA zs)) y b' ∧ BP w wr K n f m f A 3 c ∧ w3.heap.size ≤ wr.heap.size) (fun _ _ _ _ _ _ v35 _ => (intOf v35 + 1).toNat)
  case atStart => exact ⟨0, (n : Int) - 1, 0, 0, false, false, by omega, rfl, rfl, rfl, rfl, rfl, rfl, rfl, by omega, least_nil f, least_nil f, HP.out, Nat.le_refl _⟩
  case round =>
    obtain ⟨j, cI, x, y, b, b', hcj, rfl, rfl, rfl, rfl, rfl, rfl, rfl, hc1, hl1, hl2, hp, hsz⟩ := hrel
    have HL1 := Lib.hid hl1
    have HL2 := Lib.hid hl2
    have HPr := Lib.hid hp
    have HSz := Lib.hid hsz
    have HCj := Lib.hid hcj
    clear hl1 hl2 hp hsz
    by_cases h0 : 0 ≤ cI
    · obtain ⟨cn, rfl⟩ : ∃ cn : Nat, cI = (cn : Int) := ⟨cI.toNat, by omega⟩
      have hd : decide ((cn : Int) ≥ 0) = true := decide_eq_true h0
      have hs1 : ((sumF f n j : Nat) : Int) ≤ 10000 := by
        have := sumF_le HLens.out (j := j) (by omega)
        omega
      have hv1 : ((lateF f at0 n j : Nat) : Int) ≤ 1000 := by
        have h1 := lateF_lt f at0 n j
        have h2 : (2 : Nat) ^ j ≤ 2 ^ 6 := Nat.pow_le_pow_right (by decide) (by omega)
        have h3 : (2 : Nat) ^ 6 = 64 := by decide
        omega
      have HS1 := Lib.hid hs1
      have HV1 := Lib.hid hv1
      have HCn := Lib.hid (show cn < n ∧ n - 1 - j = cn by omega)
      obtain ⟨S, hS⟩ : ∃ y : Int, y = ((sumF f n j : Nat) : Int) := ⟨_, rfl⟩
      obtain ⟨V, hV⟩ : ∃ y : Int, y = ((lateF f at0 n j : Nat) : Int) := ⟨_, rfl⟩
      rw [← hS, ← hV]
      have HSE := Lib.hid hS
      have HVE := Lib.hid hV
      have hc64 : (cn : Int) ≤ 64 := by omega
      clear hs1 hv1 hcj hc1 hS hV
      go_upto_block 4 with (fail)
      refine wp_block ?_
      refine bplays_b4 (S := S) (V := V) HPr.out HC2.out HZ.out hl10 HCn.out.1 (by rw [HSE.out]; omega) (by rw [HSE.out]; exact HS1.out) (by rw [HVE.out]; omega) (by rw [HVE.out]; exact HV1.out) HL1.out HL2.out ?_
      intro q8 q29 q30 q31 q32 q33 q34 q36 q37 q38 q39 q232 q233 q234 q235 q236 q237 q238 q239 q240 q241 q242 q243 q244 q245 q246 q247 q248 q249 q250 q251 q252 q253 q254 q255 q256 q257 q258 q259 q260 q261 q262 q263 q264 q265 q266 q267 q268 q269 q270 q271 q272 q273 q274 q275 q276 q277 q278 q279 q280 q281 q282 q283 q284 q285 q286 q287 q288 q289 q290 q291 q292 q293 q294 q295 q296 q297 q298 q299 q300 q301 q302 q303 q304 q305 q306 q307 q308 q309 q310 wq ⟨x', b1, y', b2, h29, h30, h31, h32, h33, h34, hl1, hl2⟩ hpq hsq
      have e29 : q29 = .int .i64 ((sumF f n (j + 1) : Nat) : Int) := by
        rw [h29, sumF_succ, HCn.out.2, HSE.out]
        norm_cast
      have e30 : q30 = .int .u64 ((lateF f at0 n (j + 1) : Nat) : Int) := by
        rw [h30, HVE.out]
        simp only [lateF]
        rw [HCn.out.2]
        split <;> simp
      rw [e29, e30, h31, h32, h33, h34]
      have HLa := Lib.hid (show LeastL f (dwn n (j + 1)) x' b1 by rw [dwn_succ, HCn.out.2]; exact hl1)
      have HLb := Lib.hid (show LeastL f ((dwn n (j + 1)).filter (inA zs)) y' b2 by
        rw [dwn_succ, HCn.out.2, List.filter_append]
        cases h : inA zs cn with
        | true =>
          rw [h] at hl2
          simpa [h] using hl2
        | false =>
          rw [h] at hl2
          simpa [h] using hl2)
      have HPq := Lib.hid hpq
      have HSq := Lib.hid (Nat.le_trans HSz.out hsq)
      simp only [Exit.inBlock]
      clear h29 h30 e29 e30 hl1 hl2 hpq hsq h31 h32 h33 h34
      go_wp2_with fail
      go_roundw
      case rel => exact ⟨j + 1, (cn : Int) - 1, _, _, _, _, by have := HCj.out; omega, rfl, rfl, rfl, rfl, rfl, rfl, by first | rfl | (rw [show wrap64 ((cn : Int) - 1) = (cn : Int) - 1 from by unfold wrap64; omega]) | go_num, by omega, HLa.out, HLb.out, HPq.out, HSq.out⟩
      case measure => simp only [intOf]; omega
    · have hd : decide (cI ≥ 0) = false := decide_eq_false h0
      obtain rfl : j = n := by omega
      have hq := HQ.out
      rw [← sumF_all, ← lateF_all f at0 (by omega)] at hq
      have HQ' := Lib.hid hq
      clear hq HQ hcj hc1
      go_wp2_with fail
      exact HQ'.out ⟨_, _, _, _, rfl, rfl, rfl, rfl, rfl, rfl, HL1.out, HL2.out⟩ HPr.out HSz.out
end Go.Proofs.YtnndofeomakpiaaGreatDoor

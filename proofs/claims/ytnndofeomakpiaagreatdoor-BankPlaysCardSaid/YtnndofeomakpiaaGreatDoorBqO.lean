/-
  BankPlays: a part of a round over the CPUs (tail).
-/
import Derived.Test.YtnndofeomakpiaaGreatDoorBqT
import Derived.Test.YtnndofeomakpiaaGreatDoorBqM
import Derived.Test.YtnndofeomakpiaaGreatDoorBqN
import Derived.Deep.RegionHeld3
namespace Go.Proofs.YtnndofeomakpiaaGreatDoor
open Go.RowKit Go.Maps Go.BigFrame

attribute [local go_sem] Oper.semAt_some

set_option maxRecDepth 100000 in
set_option maxHeartbeats 4000000 in
theorem bplays_tail {w w3 : World} {K n A : Nat} {c : Nat → Value} {f : Nat → Wh} {m : Value} {id at' : Int} {za : Option Addr} {zs : List Int} {zc : Nat} (hT : Mk.Tab w) (hP : BP w w3 K n f m f A 3 c) (hc1 : c 1 = .int .i64 id) (hc2 : c 2 = .int .u64 at') (ha : Wd at') (hid : wf64 id) (hp : ∀ i, i < n → (f i).puts < 4611686018427387904) (hz : Mk.IntsAt w za zs) (hl10 : zs.length ≤ 10) (hn6 : n ≤ 6)
    {u1 u2 u4 u5 u6 u7 u8 u10 u12 u14 u15 u16 u17 u18 u19 u20 u21 u22 u23 u24 u25 u26 u27 u28 u29 u30 u31 u32 u33 u34 u35 u36 u37 u38 u39 u40 u41 u42 u43 u44 u45 u46 u47 u48 u49 u50 u51 u52 u53 u54 u55 u56 u57 u58 u59 u60 u61 u62 u63 u64 u65 u66 u67 u68 u69 u70 u71 u72 u73 u74 u75 u76 u77 u78 u79 u80 u81 u82 u83 u84 u85 u86 u87 u88 u89 u90 u91 u92 u93 u94 u95 u96 u97 u98 u99 u100 u101 u102 u103 u104 u105 u106 u107 u108 u109 u110 u111 u112 u113 u114 u115 u116 u117 u118 u119 u120 u121 u122 u123 u124 u125 u126 u127 u128 u129 u130 u131 u132 u133 u134 u135 u136 u137 u138 u139 u140 u141 u142 u143 u144 u145 u146 u147 u148 u149 u150 u151 u152 u153 u154 u155 u156 u157 u158 u159 u160 u161 u162 u163 u164 u165 u166 u167 u168 u169 u170 u171 u172 u173 u174 u175 u176 u177 u178 u179 u180 u181 u182 u183 u184 u185 u186 u187 u188 u189 u190 u191 u192 u193 u194 u195 u196 u197 u198 u199 u200 u201 u202 u203 u204 u205 u206 u207 u208 u209 u210 u211 u212 u213 u214 u215 u216 u217 u218 u219 u220 u221 u222 u223 u224 u225 u226 u227 u228 u229 u230 u231 u232 u233 u234 u235 u236 u237 u238 u239 u240 u241 u242 u243 u244 u245 u246 u247 u248 u249 u250 u251 u252 u253 u254 u255 u256 u257 u258 u259 u260 u261 u262 u263 u264 u265 u266 u267 u268 u269 u270 u271 u272 u273 u274 u275 u276 u277 u278 u279 u280 u281 u282 u283 u284 u285 u286 u287 u288 u289 u290 u291 u292 u293 u294 u295 u296 u297 u298 u299 u300 u301 u302 u303 u304 u305 u306 u307 u308 u309 u310 u311 u312 u313 u314 u315 u316 u317 u318 u319 u320 u321 u322 u323 u324 u325 u326 u327 u328 u329 u330 u331 u332 u333 u334 u335 u336 u337 u338 u339 u340 u341 u342 u343 u344 u345 u346 u347 u348 u349 u350 u351 u352 u353 u354 : Value} {Q : Exit → Act → World → Prop}
    (hQ : ∀ ⦃x8 x25 x26 x27 x28 x29 x30 x31 x32 x33 x34 x35 x36 x37 x38 x39 x40 x41 x42 x43 x174 x175 x176 x177 x178 x179 x180 x181 x182 x183 x184 x185 x186 x187 x188 x189 x190 x191 x192 x193 x194 x195 x196 x197 x198 x199 x200 x201 x202 x203 x204 x205 x206 x207 x208 x209 x210 x211 x212 x213 x214 x215 x216 x217 x218 x219 x220 x221 x222 x223 x224 x225 x226 x227 x228 x229 x230 x231 x232 x233 x234 x235 x236 x237 x238 x239 x240 x241 x242 x243 x244 x245 x246 x247 x248 x249 x250 x251 x252 x253 x254 x255 x256 x257 x258 x259 x260 x261 x262 x263 x264 x265 x266 x267 x268 x269 x270 x271 x272 x273 x274 x275 x276 x277 x278 x279 x280 x281 x282 x283 x284 x285 x286 x287 x288 x289 x290 x291 x292 x293 x294 x295 x296 x297 x298 x299 x300 x301 x302 x303 x304 x305 x306 x307 x308 x309 x310 x311 x312 x313 x314 x315 x316 x317 x318 x319 x320 x321 x322 x323 x324 x325 x326 x327 x328 x329 x330 x331 x332 x333 x334 x335 x336 x337 x338 x339 x340 x341 x342 x343 x344 x345 x346 x347 x348 x349 x350 x351 x352 x353 : Value⦄ ⦃wq : World⦄, BP w wq K n f m f A 3 c → w3.heap.size ≤ wq.heap.size → Q .normal { tmps := #[.int .i64 (n : Int), u1, u2, .slice za zs.length zc, u4, u5, u6, u7, x8, .pointer (some ⟨K, 0, none⟩), u10, m, u12, .pointer (some ⟨A, 0, none⟩), u14, u15, u16, u17, u18, u19, u20, u21, u22, u23, u24, x25, x26, x27, x28, x29, x30, x31, x32, x33, x34, x35, x36, x37, x38, x39, x40, x41, x42, x43, u44, u45, u46, u47, u48, u49, u50, u51, u52, u53, u54, u55, u56, u57, u58, u59, u60, u61, u62, u63, u64, u65, u66, u67, u68, u69, u70, u71, u72, u73, u74, u75, u76, u77, u78, u79, u80, u81, u82, u83, u84, u85, u86, u87, u88, u89, u90, u91, u92, u93, u94, u95, u96, u97, u98, u99, u100, u101, u102, u103, u104, u105, u106, u107, u108, u109, u110, u111, u112, u113, u114, u115, u116, u117, u118, u119, u120, u121, u122, u123, u124, u125, u126, u127, u128, u129, u130, u131, u132, u133, u134, u135, u136, u137, u138, u139, u140, u141, u142, u143, u144, u145, u146, u147, u148, u149, u150, u151, u152, u153, u154, u155, u156, u157, u158, u159, u160, u161, u162, u163, u164, u165, u166, u167, u168, u169, u170, u171, u172, u173, x174, x175, x176, x177, x178, x179, x180, x181, x182, x183, x184, x185, x186, x187, x188, x189, x190, x191, x192, x193, x194, x195, x196, x197, x198, x199, x200, x201, x202, x203, x204, x205, x206, x207, x208, x209, x210, x211, x212, x213, x214, x215, x216, x217, x218, x219, x220, x221, x222, x223, x224, x225, x226, x227, x228, x229, x230, x231, x232, x233, x234, x235, x236, x237, x238, x239, x240, x241, x242, x243, x244, x245, x246, x247, x248, x249, x250, x251, x252, x253, x254, x255, x256, x257, x258, x259, x260, x261, x262, x263, x264, x265, x266, x267, x268, x269, x270, x271, x272, x273, x274, x275, x276, x277, x278, x279, x280, x281, x282, x283, x284, x285, x286, x287, x288, x289, x290, x291, x292, x293, x294, x295, x296, x297, x298, x299, x300, x301, x302, x303, x304, x305, x306, x307, x308, x309, x310, x311, x312, x313, x314, x315, x316, x317, x318, x319, x320, x321, x322, x323, x324, x325, x326, x327, x328, x329, x330, x331, x332, x333, x334, x335, x336, x337, x338, x339, x340, x341, x342, x343, x344, x345, x346, x347, x348, x349, x350, x351, x352, x353, u354], defers := [] } wq) :
    Code.wp Tryz.prog (codeOf [1, 1, 1, 1, 1, 1, 0, 1, 1, 1, 1, 0, 1, 1, 1, 1] (Tryz.f3.body.getD .skip)) Q { tmps := #[.int .i64 (n : Int), u1, u2, .slice za zs.length zc, u4, u5, u6, u7, u8, .pointer (some ⟨K, 0, none⟩), u10, m, u12, .pointer (some ⟨A, 0, none⟩), u14, u15, u16, u17, u18, u19, u20, u21, u22, u23, u24, u25, u26, u27, u28, u29, u30, u31, u32, u33, u34, u35, u36, u37, u38, u39, u40, u41, u42, u43, u44, u45, u46, u47, u48, u49, u50, u51, u52, u53, u54, u55, u56, u57, u58, u59, u60, u61, u62, u63, u64, u65, u66, u67, u68, u69, u70, u71, u72, u73, u74, u75, u76, u77, u78, u79, u80, u81, u82, u83, u84, u85, u86, u87, u88, u89, u90, u91, u92, u93, u94, u95, u96, u97, u98, u99, u100, u101, u102, u103, u104, u105, u106, u107, u108, u109, u110, u111, u112, u113, u114, u115, u116, u117, u118, u119, u120, u121, u122, u123, u124, u125, u126, u127, u128, u129, u130, u131, u132, u133, u134, u135, u136, u137, u138, u139, u140, u141, u142, u143, u144, u145, u146, u147, u148, u149, u150, u151, u152, u153, u154, u155, u156, u157, u158, u159, u160, u161, u162, u163, u164, u165, u166, u167, u168, u169, u170, u171, u172, u173, u174, u175, u176, u177, u178, u179, u180, u181, u182, u183, u184, u185, u186, u187, u188, u189, u190, u191, u192, u193, u194, u195, u196, u197, u198, u199, u200, u201, u202, u203, u204, u205, u206, u207, u208, u209, u210, u211, u212, u213, u214, u215, u216, u217, u218, u219, u220, u221, u222, u223, u224, u225, u226, u227, u228, u229, u230, u231, u232, u233, u234, u235, u236, u237, u238, u239, u240, u241, u242, u243, u244, u245, u246, u247, u248, u249, u250, u251, u252, u253, u254, u255, u256, u257, u258, u259, u260, u261, u262, u263, u264, u265, u266, u267, u268, u269, u270, u271, u272, u273, u274, u275, u276, u277, u278, u279, u280, u281, u282, u283, u284, u285, u286, u287, u288, u289, u290, u291, u292, u293, u294, u295, u296, u297, u298, u299, u300, u301, u302, u303, u304, u305, u306, u307, u308, u309, u310, u311, u312, u313, u314, u315, u316, u317, u318, u319, u320, u321, u322, u323, u324, u325, u326, u327, u328, u329, u330, u331, u332, u333, u334, u335, u336, u337, u338, u339, u340, u341, u342, u343, u344, u345, u346, u347, u348, u349, u350, u351, u352, u353, u354], defers := [] } w3 := by
  have HQ := Lib.hid hQ
  have HT := Lib.hid hT
  have HP := Lib.hid hP
  have HC1 := Lib.hid hc1
  have HC2 := Lib.hid hc2
  have HA := Lib.hid ha
  have HId := Lib.hid hid
  have HPu := Lib.hid hp
  have HZ := Lib.hid hz
  clear hQ hT hP hc1 hc2 ha hid hp hz
  simp only [codeOf, Tryz.f3, Option.getD_some]
  have hrf := rbfind_any HP.out.rb HP.out.bl.le HP.out.lens id
  obtain ⟨R, hR⟩ : ∃ y, y = fR f n id := ⟨_, rfl⟩
  obtain ⟨Oc, hOc⟩ : ∃ y : Int, y = ((ownC f n id : Nat) : Int) := ⟨_, rfl⟩
  obtain ⟨lv, hlv⟩ : ∃ y : Int, y = ((ownS f n id).lv : Int) := ⟨_, rfl⟩
  obtain ⟨sl, hsl⟩ : ∃ y, y = (ownS f n id).sl := ⟨_, rfl⟩
  obtain ⟨sa, hsa⟩ : ∃ y, y = (ownS f n id).at' := ⟨_, rfl⟩
  obtain ⟨sd, hsd⟩ : ∃ y, y = (ownS f n id).due := ⟨_, rfl⟩
  obtain ⟨Bo, hBo⟩ : ∃ y, y = ownB f n id := ⟨_, rfl⟩
  rw [← hR] at hrf
  have HRf := Lib.hid hrf
  have HR := Lib.hid hR
  have HOc := Lib.hid hOc
  have HLv := Lib.hid hlv
  have HSl := Lib.hid hsl
  have HSa := Lib.hid hsa
  have HSd := Lib.hid hsd
  have HBo := Lib.hid hBo
  clear hrf hR hOc hlv hsl hsa hsd hBo
  have a1 := (HP.out.act 1 (by decide)).trans (congrArg some HC1.out)
  refine wp_seq_k (fun K1 hK1 => ?_)
  have HK1 := Lib.hid hK1
  clear hK1
  go_wp2_with fail
  with_reducible refine HRf.out.mono ?_
  rintro e w4 ⟨rfl, hc4⟩
  have HP4 := Lib.hid (HP.out.quiet hc4)
  have HC4 := Lib.hid hc4.size
  have hfd := HP4.out.bl.find HId.out
  unfold spV at hfd
  rw [← HOc.out, ← HLv.out, ← HSl.out, ← HSa.out, ← HSd.out, ← HBo.out] at hfd
  have HFd := Lib.hid hfd
  clear hc4 a1 hfd
  have a1 := (HP4.out.act 1 (by decide)).trans (congrArg some HC1.out)
  go_frame
  go_wp2_with fail
  refine HK1.out _ _ ?_
  clear HK1
  refine wp_seq_k (fun K2 hK2 => ?_)
  have HK2 := Lib.hid hK2
  clear hK2
  go_wp2_with fail
  with_reducible refine HFd.out.mono ?_
  rintro e w5 ⟨rfl, hc5⟩
  have hf8 := Four.new w5 (.int .i64 lv) (.int .i64 sl) (.int .u64 sa) (.int .u64 sd) 40
  have hc8 := hc5.alloc (.cells #[.int .i64 lv, .int .i64 sl, .int .u64 sa, .int .u64 sd] 40)
  have HF8 := Lib.hid hf8
  have HP8 := Lib.hid (HP4.out.quiet hc8)
  have HC8 := Lib.hid (Nat.le_trans HC4.out hc8.size)
  clear hf8 hc8 hc5 a1
  go_frame
  go_wp2_with fail
  refine HK2.out _ _ ?_
  clear HK2
  refine wp_seq_k (fun K3 hK3 => ?_)
  have HK3 := Lib.hid hK3
  clear hK3
  have hF9 : Four (w5.alloc (.cells #[.int .i64 lv, .int .i64 sl, .int .u64 sa, .int .u64 sd] 40)) w5.heap.size (.int .i64 ((ownS f n id).lv : Int)) (.int .i64 (ownS f n id).sl) (.int .u64 (ownS f n id).at') (.int .u64 (ownS f n id).due) := by
    rw [← HLv.out, ← HSl.out, ← HSa.out, ← HSd.out]
    exact HF8.out
  rw [HR.out, HOc.out, HBo.out]
  refine bplays_t32 HT.out HP8.out HC1.out HC2.out HA.out HId.out HPu.out hF9 ?_
  intro q8 q186 q187 q188 q189 q190 q191 q192 q193 q194 q195 q196 q197 q198 q199 q200 q201 q202 q203 q204 q205 q206 q207 q208 q209 q210 q211 q212 q213 q214 q215 q216 q217 q218 q219 q220 q221 q222 q223 q224 q225 wq hpq hsq
  have HPq := Lib.hid hpq
  have HSq := Lib.hid (Nat.le_trans HC8.out hsq)
  rw [← HR.out, ← HOc.out, ← HBo.out]
  clear hpq hsq hF9
  simp only [Exit.then]
  refine HK3.out _ _ ?_
  clear HK3
  refine wp_seq_k (fun K4 hK4 => ?_)
  have HK4 := Lib.hid hK4
  clear hK4
  go_wp2_with fail
  refine HK4.out _ _ ?_
  clear HK4
  refine wp_seq_k (fun K5 hK5 => ?_)
  have HK5 := Lib.hid hK5
  clear hK5
  go_wp2_with fail
  refine HK5.out _ _ ?_
  clear HK5
  refine wp_seq_k (fun K6 hK6 => ?_)
  have HK6 := Lib.hid hK6
  clear hK6
  go_wp2_with fail
  refine HK6.out _ _ ?_
  clear HK6
  refine wp_seq_k (fun K7 hK7 => ?_)
  have HK7 := Lib.hid hK7
  clear hK7
  go_wp2_with fail
  refine HK7.out _ _ ?_
  clear HK7
  refine wp_seq_k (fun K8 hK8 => ?_)
  have HK8 := Lib.hid hK8
  clear hK8
  refine bplays_loop HPq.out HC2.out HZ.out hl10 hn6 ?_
  intro r8 r29 r30 r31 r32 r33 r34 r35 r36 r37 r38 r39 r226 r227 r228 r229 r230 r231 r232 r233 r234 r235 r236 r237 r238 r239 r240 r241 r242 r243 r244 r245 r246 r247 r248 r249 r250 r251 r252 r253 r254 r255 r256 r257 r258 r259 r260 r261 r262 r263 r264 r265 r266 r267 r268 r269 r270 r271 r272 r273 r274 r275 r276 r277 r278 r279 r280 r281 r282 r283 r284 r285 r286 r287 r288 r289 r290 r291 r292 r293 r294 r295 r296 r297 r298 r299 r300 r301 r302 r303 r304 r305 r306 r307 r308 r309 r310 wr ⟨x, b, y, b', h29, h30, h31, h32, h33, h34, hl1, hl2⟩ hpr hsr
  rw [h29, h30, h31, h32, h33, h34]
  simp only [Exit.then]
  refine HK8.out _ _ ?_
  clear HK8
  refine bplays_end HT.out hpr HC2.out HZ.out hl10 hl1 hl2 ?_
  intro s8 s40 s41 s42 s43 s311 s312 s313 s314 s315 s316 s317 s318 s319 s320 s321 s322 s323 s324 s325 s326 s327 s328 s329 s330 s331 s332 s333 s334 s335 s336 s337 s338 s339 s340 s341 s342 s343 s344 s345 s346 s347 s348 s349 s350 s351 s352 s353 ws hps hss
  exact HQ.out hps (Nat.le_trans HSq.out (Nat.le_trans hsr hss))
end Go.Proofs.YtnndofeomakpiaaGreatDoor

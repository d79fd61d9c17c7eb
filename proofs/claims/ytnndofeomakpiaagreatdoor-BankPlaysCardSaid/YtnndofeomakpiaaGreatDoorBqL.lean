/-
  BankPlays: a part of a round over the CPUs (b4).
-/
import Derived.Test.YtnndofeomakpiaaGreatDoorBqG
import Derived.Test.YtnndofeomakpiaaGreatDoorBqH
import Derived.Test.YtnndofeomakpiaaGreatDoorBqI
import Derived.Test.YtnndofeomakpiaaGreatDoorBqJ
import Derived.Test.YtnndofeomakpiaaGreatDoorBqK
import Derived.Deep.RegionHeld3
namespace Go.Proofs.YtnndofeomakpiaaGreatDoor
open Go.RowKit Go.Maps Go.BigFrame

attribute [local go_sem] Oper.semAt_some

set_option maxRecDepth 100000 in
set_option maxHeartbeats 4000000 in
theorem bplays_b4 {w w3 : World} {K n A : Nat} {c : Nat → Value} {f : Nat → Wh} {m : Value} {at' : Int} {za : Option Addr} {zs : List Int} {zc cn : Nat} {S V x y : Int} {b b' : Bool} {l l' : List Nat} (hP : BP w w3 K n f m f A 3 c) (hc2 : c 2 = .int .u64 at') (hz : Mk.IntsAt w za zs) (hl10 : zs.length ≤ 10) (hcn : cn < n) (hs0 : 0 ≤ S) (hs1 : S ≤ 10000) (hv0 : 0 ≤ V) (hv1 : V ≤ 1000) (hL1 : LeastL f l x b) (hL2 : LeastL f l' y b')
    {u0 u1 u2 u4 u5 u6 u7 u8 u10 u12 u14 u15 u16 u17 u18 u19 u20 u21 u22 u23 u24 u25 u26 u27 u28 u36 u37 u38 u39 u40 u41 u42 u43 u44 u45 u46 u47 u48 u49 u50 u51 u52 u53 u54 u55 u56 u57 u58 u59 u60 u61 u62 u63 u64 u65 u66 u67 u68 u69 u70 u71 u72 u73 u74 u75 u76 u77 u78 u79 u80 u81 u82 u83 u84 u85 u86 u87 u88 u89 u90 u91 u92 u93 u94 u95 u96 u97 u98 u99 u100 u101 u102 u103 u104 u105 u106 u107 u108 u109 u110 u111 u112 u113 u114 u115 u116 u117 u118 u119 u120 u121 u122 u123 u124 u125 u126 u127 u128 u129 u130 u131 u132 u133 u134 u135 u136 u137 u138 u139 u140 u141 u142 u143 u144 u145 u146 u147 u148 u149 u150 u151 u152 u153 u154 u155 u156 u157 u158 u159 u160 u161 u162 u163 u164 u165 u166 u167 u168 u169 u170 u171 u172 u173 u174 u175 u176 u177 u178 u179 u180 u181 u182 u183 u184 u185 u186 u187 u188 u189 u190 u191 u192 u193 u194 u195 u196 u197 u198 u199 u200 u201 u202 u203 u204 u205 u206 u207 u208 u209 u210 u211 u212 u213 u214 u215 u216 u217 u218 u219 u220 u221 u222 u223 u224 u225 u226 u227 u228 u229 u230 u231 u232 u233 u234 u235 u236 u237 u238 u239 u240 u241 u242 u243 u244 u245 u246 u247 u248 u249 u250 u251 u252 u253 u254 u255 u256 u257 u258 u259 u260 u261 u262 u263 u264 u265 u266 u267 u268 u269 u270 u271 u272 u273 u274 u275 u276 u277 u278 u279 u280 u281 u282 u283 u284 u285 u286 u287 u288 u289 u290 u291 u292 u293 u294 u295 u296 u297 u298 u299 u300 u301 u302 u303 u304 u305 u306 u307 u308 u309 u310 u311 u312 u313 u314 u315 u316 u317 u318 u319 u320 u321 u322 u323 u324 u325 u326 u327 u328 u329 u330 u331 u332 u333 u334 u335 u336 u337 u338 u339 u340 u341 u342 u343 u344 u345 u346 u347 u348 u349 u350 u351 u352 u353 u354 : Value} {Q : Exit → Act → World → Prop}
    (hQ : ∀ ⦃x8 x29 x30 x31 x32 x33 x34 x36 x37 x38 x39 x232 x233 x234 x235 x236 x237 x238 x239 x240 x241 x242 x243 x244 x245 x246 x247 x248 x249 x250 x251 x252 x253 x254 x255 x256 x257 x258 x259 x260 x261 x262 x263 x264 x265 x266 x267 x268 x269 x270 x271 x272 x273 x274 x275 x276 x277 x278 x279 x280 x281 x282 x283 x284 x285 x286 x287 x288 x289 x290 x291 x292 x293 x294 x295 x296 x297 x298 x299 x300 x301 x302 x303 x304 x305 x306 x307 x308 x309 x310 : Value⦄ ⦃wq : World⦄, (∃ x' b'' y' b3, x29 = .int .i64 (S + ((f cn).L.length : Int)) ∧ x30 = .int .u64 (V * 2 + (if lateB (f cn).L at' = true then 1 else 0)) ∧ x31 = .int .u64 x' ∧ x32 = .bool b'' ∧ x33 = .int .u64 y' ∧ x34 = .bool b3 ∧ LeastL f (l ++ [cn]) x' b'' ∧ LeastL f (if inA zs cn = true then l' ++ [cn] else l') y' b3) → BP w wq K n f m f A 3 c → w3.heap.size ≤ wq.heap.size → Q .normal { tmps := #[u0, u1, u2, .slice za zs.length zc, u4, u5, u6, u7, x8, .pointer (some ⟨K, 0, none⟩), u10, m, u12, .pointer (some ⟨A, 0, none⟩), u14, u15, u16, u17, u18, u19, u20, u21, u22, u23, u24, u25, u26, u27, u28, x29, x30, x31, x32, x33, x34, .int .i64 (cn : Int), x36, x37, x38, x39, u40, u41, u42, u43, u44, u45, u46, u47, u48, u49, u50, u51, u52, u53, u54, u55, u56, u57, u58, u59, u60, u61, u62, u63, u64, u65, u66, u67, u68, u69, u70, u71, u72, u73, u74, u75, u76, u77, u78, u79, u80, u81, u82, u83, u84, u85, u86, u87, u88, u89, u90, u91, u92, u93, u94, u95, u96, u97, u98, u99, u100, u101, u102, u103, u104, u105, u106, u107, u108, u109, u110, u111, u112, u113, u114, u115, u116, u117, u118, u119, u120, u121, u122, u123, u124, u125, u126, u127, u128, u129, u130, u131, u132, u133, u134, u135, u136, u137, u138, u139, u140, u141, u142, u143, u144, u145, u146, u147, u148, u149, u150, u151, u152, u153, u154, u155, u156, u157, u158, u159, u160, u161, u162, u163, u164, u165, u166, u167, u168, u169, u170, u171, u172, u173, u174, u175, u176, u177, u178, u179, u180, u181, u182, u183, u184, u185, u186, u187, u188, u189, u190, u191, u192, u193, u194, u195, u196, u197, u198, u199, u200, u201, u202, u203, u204, u205, u206, u207, u208, u209, u210, u211, u212, u213, u214, u215, u216, u217, u218, u219, u220, u221, u222, u223, u224, u225, u226, u227, u228, u229, u230, u231, x232, x233, x234, x235, x236, x237, x238, x239, x240, x241, x242, x243, x244, x245, x246, x247, x248, x249, x250, x251, x252, x253, x254, x255, x256, x257, x258, x259, x260, x261, x262, x263, x264, x265, x266, x267, x268, x269, x270, x271, x272, x273, x274, x275, x276, x277, x278, x279, x280, x281, x282, x283, x284, x285, x286, x287, x288, x289, x290, x291, x292, x293, x294, x295, x296, x297, x298, x299, x300, x301, x302, x303, x304, x305, x306, x307, x308, x309, x310, u311, u312, u313, u314, u315, u316, u317, u318, u319, u320, u321, u322, u323, u324, u325, u326, u327, u328, u329, u330, u331, u332, u333, u334, u335, u336, u337, u338, u339, u340, u341, u342, u343, u344, u345, u346, u347, u348, u349, u350, u351, u352, u353, u354], defers := [] } wq) :
    Code.wp Tryz.prog (codeOf [1, 1, 1, 1, 1, 1, 0, 1, 1, 1, 1, 0, 1, 1, 1, 1, 1, 1, 1, 1, 1, 1, 1, 0, 1, 1, 1, 1, 0, 1] (Tryz.f3.body.getD .skip)) Q { tmps := #[u0, u1, u2, .slice za zs.length zc, u4, u5, u6, u7, u8, .pointer (some ⟨K, 0, none⟩), u10, m, u12, .pointer (some ⟨A, 0, none⟩), u14, u15, u16, u17, u18, u19, u20, u21, u22, u23, u24, u25, u26, u27, u28, .int .i64 S, .int .u64 V, .int .u64 x, .bool b, .int .u64 y, .bool b', .int .i64 (cn : Int), u36, u37, u38, u39, u40, u41, u42, u43, u44, u45, u46, u47, u48, u49, u50, u51, u52, u53, u54, u55, u56, u57, u58, u59, u60, u61, u62, u63, u64, u65, u66, u67, u68, u69, u70, u71, u72, u73, u74, u75, u76, u77, u78, u79, u80, u81, u82, u83, u84, u85, u86, u87, u88, u89, u90, u91, u92, u93, u94, u95, u96, u97, u98, u99, u100, u101, u102, u103, u104, u105, u106, u107, u108, u109, u110, u111, u112, u113, u114, u115, u116, u117, u118, u119, u120, u121, u122, u123, u124, u125, u126, u127, u128, u129, u130, u131, u132, u133, u134, u135, u136, u137, u138, u139, u140, u141, u142, u143, u144, u145, u146, u147, u148, u149, u150, u151, u152, u153, u154, u155, u156, u157, u158, u159, u160, u161, u162, u163, u164, u165, u166, u167, u168, u169, u170, u171, u172, u173, u174, u175, u176, u177, u178, u179, u180, u181, u182, u183, u184, u185, u186, u187, u188, u189, u190, u191, u192, u193, u194, u195, u196, u197, u198, u199, u200, u201, u202, u203, u204, u205, u206, u207, u208, u209, u210, u211, u212, u213, u214, u215, u216, u217, u218, u219, u220, u221, u222, u223, u224, u225, u226, u227, u228, u229, u230, u231, u232, u233, u234, u235, u236, u237, u238, u239, u240, u241, u242, u243, u244, u245, u246, u247, u248, u249, u250, u251, u252, u253, u254, u255, u256, u257, u258, u259, u260, u261, u262, u263, u264, u265, u266, u267, u268, u269, u270, u271, u272, u273, u274, u275, u276, u277, u278, u279, u280, u281, u282, u283, u284, u285, u286, u287, u288, u289, u290, u291, u292, u293, u294, u295, u296, u297, u298, u299, u300, u301, u302, u303, u304, u305, u306, u307, u308, u309, u310, u311, u312, u313, u314, u315, u316, u317, u318, u319, u320, u321, u322, u323, u324, u325, u326, u327, u328, u329, u330, u331, u332, u333, u334, u335, u336, u337, u338, u339, u340, u341, u342, u343, u344, u345, u346, u347, u348, u349, u350, u351, u352, u353, u354], defers := [] } w3 := by
  have HQ := Lib.hid hQ
  have HP := Lib.hid hP
  have HC2 := Lib.hid hc2
  have HZ := Lib.hid hz
  have HCn := Lib.hid hcn
  have HL1 := Lib.hid hL1
  have HL2 := Lib.hid hL2
  clear hQ hP hc2 hz hcn hL1 hL2
  simp only [codeOf, Tryz.f3, Option.getD_some]
  obtain ⟨gb, cp, av, lc, cc, hme, -, -, r0, r1, hlc, hrt⟩ := HP.out.rb.at HCn.out
  have hwi := HP.out.bl.wi HCn.out
  have hlen := hwi.len
  obtain ⟨nw, hnw⟩ : ∃ y, y = (f cn).now := ⟨_, rfl⟩
  obtain ⟨t, ht⟩ : ∃ y, y = nextD (DL (f cn).L) := ⟨_, rfl⟩
  obtain ⟨due, hdue⟩ : ∃ y, y = nextO (DL (f cn).L) := ⟨_, rfl⟩
  have hn := rbnext_any (now := nw) hrt hlen hwi.rise hwi.nd
  have hLt : lateB (f cn).L at' = (due && decide (t ≤ at')) := by rw [ht, hdue]; rfl
  unfold rw7 at hn
  rw [← ht, ← hdue] at hn
  rw [← hnw] at r0
  rw [← hlc] at hlen
  have HN := Lib.hid hn
  have HLt := Lib.hid hLt
  have HLc := Lib.hid hlc
  have HDue := Lib.hid (And.intro hdue ht)
  have hcn0 : (0 : Int) ≤ (cn : Int) := by omega
  have hcn1 : (cn : Int) < (n : Int) := by have := HCn.out; omega
  have HMe := Lib.hid hme
  rw [hme]
  clear hwi hn hLt hlc hdue ht hnw hrt hme
  refine wp_seq_k (fun K1 hK1 => ?_)
  have HK1 := Lib.hid hK1
  clear hK1
  go_wp2_with fail
  refine HK1.out _ _ ?_
  clear HK1
  refine wp_seq_k (fun K2 hK2 => ?_)
  have HK2 := Lib.hid hK2
  clear hK2
  go_wp2_with fail
  with_reducible refine HN.out.mono ?_
  rintro e w4 ⟨rfl, hc4⟩
  have HP4 := Lib.hid (HP.out.quiet hc4)
  have HC4 := Lib.hid hc4.size
  have ha2 := (HP4.out.act 2 (by decide)).trans (congrArg some HC2.out)
  have HA2 := Lib.hid ha2
  have HZ4 := Lib.hid (HZ.out.later HP4.out.bl.bel)
  clear hc4 ha2 r0 r1
  go_wp2_with fail
  refine HK2.out _ _ ?_
  clear HK2
  refine wp_seq_k (fun K3 hK3 => ?_)
  have HK3 := Lib.hid hK3
  clear hK3
  go_wp2_with fail
  refine HK3.out _ _ ?_
  clear HK3
  refine wp_seq_k (fun K4 hK4 => ?_)
  have HK4 := Lib.hid hK4
  clear hK4
  refine bplays_b44 HA2.out (by omega) (by omega) ?_
  intro q30 q250 q251 q252 q253 q254 q255 q256 q257 q258 wq h30 hwq
  obtain ⟨bt, hbt⟩ : ∃ y : Int, y = (if lateB (f cn).L at' = true then 1 else 0) := ⟨_, rfl⟩
  rw [h30, hwq, ← HLt.out, ← hbt]
  have HBt := Lib.hid hbt
  clear hbt h30
  simp only [Exit.then]
  refine HK4.out _ _ ?_
  clear HK4
  refine wp_seq_k (fun K5 hK5 => ?_)
  have HK5 := Lib.hid hK5
  clear hK5
  refine bplays_b46 HDue.out HL1.out ?_
  intro r31 r32 r259 r260 r261 r262 r263 r264 r265 r266 r267 r268 r269 wr ⟨x1, b1, h31, h32, hl1⟩ hwr
  rw [h31, h32, hwr]
  have HLa := Lib.hid hl1
  clear hl1
  simp only [Exit.then]
  refine HK5.out _ _ ?_
  clear HK5
  refine wp_seq_k (fun K6 hK6 => ?_)
  have HK6 := Lib.hid hK6
  clear hK6
  go_wp2_with fail
  refine HK6.out _ _ ?_
  clear HK6
  refine wp_seq_k (fun K7 hK7 => ?_)
  have HK7 := Lib.hid hK7
  clear hK7
  refine bplays_b49 HZ4.out hl10 ?_
  intro s38 s39 s273 s274 s275 s276 s277 s278 s279 s280 s281 s282 s283 s284 s285 s286 s287 ws h38 hws
  rw [h38, hws]
  simp only [Exit.then]
  refine HK7.out _ _ ?_
  clear HK7
  refine wp_seq_k (fun K8 hK8 => ?_)
  have HK8 := Lib.hid hK8
  clear hK8
  refine bplays_b53 HDue.out HL2.out ?_
  intro y33 y34 y288 y289 y290 y291 y292 y293 y294 y295 y296 y297 y298 y299 y300 y301 wy ⟨x2, b2, h33, h34, hl2⟩ hwy
  rw [h33, h34, hwy]
  have HLb := Lib.hid hl2
  clear hl2
  simp only [Exit.then]
  refine HK8.out _ _ ?_
  clear HK8
  rw [← HMe.out]
  refine bplays_b55 HP4.out HCn.out ?_
  intro z8 z302 z303 z304 z305 z306 z307 z308 z309 z310 wz hpz hsz
  refine HQ.out ⟨_, _, _, _, ?_, by rw [HBt.out], rfl, rfl, rfl, rfl, HLa.out, ?_⟩ hpz (Nat.le_trans HC4.out hsz)
  · rw [HLc.out]
  · have e0 : ((zs.length : Int) == 0) = decide (zs.length = 0) := by rw [Bool.eq_iff_iff]; simp
    have h := HLb.out
    rw [e0] at h
    exact h
end Go.Proofs.YtnndofeomakpiaaGreatDoor

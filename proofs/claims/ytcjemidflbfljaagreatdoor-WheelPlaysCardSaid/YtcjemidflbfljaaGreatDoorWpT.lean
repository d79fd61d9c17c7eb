/-
  WheelPlays: what is told behind each call.
-/
import Derived.Test.YtcjemidflbfljaaGreatDoorWpJ
import Derived.Test.YtcjemidflbfljaaGreatDoorWpK
import Derived.Test.YtcjemidflbfljaaGreatDoorWpL
import Derived.Deep.RegionHeld3
namespace Go.Proofs.YtcjemidflbfljaaGreatDoor
open Go.RowKit Go.Maps Go.BigFrame

attribute [local go_sem] Oper.semAt_some

set_option maxRecDepth 100000 in
set_option maxHeartbeats 4000000 in
theorem plays_tail {w w3 : World} {B M A : Nat} {c : Nat → Value} {now : Int} {puts : Nat} {L Lu : List Tm} {v u : Value} {id at' : Int} (hT : Mk.Tab w) (hP : PP w w3 B M A 3 c now puts L now v L u Lu) (hc1 : c 1 = .int .i64 id) (hc2 : c 2 = .int .u64 at') (ha : Wd at') (hid : wf64 id) (hp : puts < 4611686018427387904)
    {u0 u1 u2 u3 u4 u7 u9 u10 u11 u12 u13 u14 u15 u16 u17 u18 u19 u20 u21 u22 u23 u24 u25 u26 u27 u28 u29 u30 u31 u32 u33 u34 u35 u36 u37 u38 u39 u40 u41 u42 u43 u44 u45 u46 u47 u48 u49 u50 u51 u52 u53 u54 u55 u56 u57 u58 u59 u60 u61 u62 u63 u64 u65 u66 u67 u68 u69 u70 u71 u72 u73 u74 u75 u76 u77 u78 u79 u80 u81 u82 u83 u84 u85 u86 u87 u88 u89 u90 u91 u92 u93 u94 u95 u96 u97 u98 u99 u100 u101 u102 u103 u104 u105 u106 u107 u108 u109 u110 u111 u112 u113 u114 u115 u116 u117 u118 u119 u120 u121 u122 u123 u124 u125 u126 u127 u128 u129 u130 u131 u132 u133 u134 u135 u136 u137 u138 u139 u140 u141 u142 u143 u144 u145 u146 u147 u148 u149 u150 u151 u152 u153 u154 u155 u156 u157 u158 u159 u160 u161 u162 u163 u164 u165 u166 u167 u168 u169 u170 u171 u172 u173 u174 u175 u176 u177 u178 u179 u180 u181 u182 u183 u184 u185 u186 u187 u188 u189 u190 u191 u192 u193 u194 u195 u196 u197 u198 u199 u200 u201 u202 u203 u204 u205 u206 : Value} {Q : Exit → Act → World → Prop}
    (hQ : ∀ ⦃x4 x19 x20 x21 x22 x23 x123 x124 x125 x126 x127 x128 x129 x130 x131 x132 x133 x134 x135 x136 x137 x138 x139 x140 x141 x142 x143 x144 x145 x146 x147 x148 x149 x150 x151 x152 x153 x154 x155 x156 x157 x158 x159 x160 x161 x162 x163 x164 x165 x166 x167 x168 x169 x170 x171 x172 x173 x174 x175 x176 x177 x178 x179 x180 x181 x182 x183 x184 x185 x186 x187 x188 x189 x190 x191 x192 x193 x194 x195 x196 x197 x198 x199 x200 x201 x202 x203 x204 x205 : Value⦄ ⦃wq : World⦄, PP w wq B M A 3 c now puts L now v L u Lu → w3.heap.size ≤ wq.heap.size → Q .normal { tmps := #[u0, u1, u2, u3, x4, .pointer (some ⟨B, 0, none⟩), .pointer (some ⟨M, 0, none⟩), u7, .pointer (some ⟨A, 0, none⟩), u9, u10, u11, u12, u13, u14, u15, u16, u17, u18, x19, x20, x21, x22, x23, u24, u25, u26, u27, u28, u29, u30, u31, u32, u33, u34, u35, u36, u37, u38, u39, u40, u41, u42, u43, u44, u45, u46, u47, u48, u49, u50, u51, u52, u53, u54, u55, u56, u57, u58, u59, u60, u61, u62, u63, u64, u65, u66, u67, u68, u69, u70, u71, u72, u73, u74, u75, u76, u77, u78, u79, u80, u81, u82, u83, u84, u85, u86, u87, u88, u89, u90, u91, u92, u93, u94, u95, u96, u97, u98, u99, u100, u101, u102, u103, u104, u105, u106, u107, u108, u109, u110, u111, u112, u113, u114, u115, u116, u117, u118, u119, u120, u121, u122, x123, x124, x125, x126, x127, x128, x129, x130, x131, x132, x133, x134, x135, x136, x137, x138, x139, x140, x141, x142, x143, x144, x145, x146, x147, x148, x149, x150, x151, x152, x153, x154, x155, x156, x157, x158, x159, x160, x161, x162, x163, x164, x165, x166, x167, x168, x169, x170, x171, x172, x173, x174, x175, x176, x177, x178, x179, x180, x181, x182, x183, x184, x185, x186, x187, x188, x189, x190, x191, x192, x193, x194, x195, x196, x197, x198, x199, x200, x201, x202, x203, x204, x205, u206], defers := [] } wq) :
    Code.wp Tryz.prog (codeOf [1, 1, 1, 0, 1, 1, 1, 1, 0, 1, 1, 1] (Tryz.f3.body.getD .skip)) Q { tmps := #[u0, u1, u2, u3, u4, .pointer (some ⟨B, 0, none⟩), .pointer (some ⟨M, 0, none⟩), u7, .pointer (some ⟨A, 0, none⟩), u9, u10, u11, u12, u13, u14, u15, u16, u17, u18, u19, u20, u21, u22, u23, u24, u25, u26, u27, u28, u29, u30, u31, u32, u33, u34, u35, u36, u37, u38, u39, u40, u41, u42, u43, u44, u45, u46, u47, u48, u49, u50, u51, u52, u53, u54, u55, u56, u57, u58, u59, u60, u61, u62, u63, u64, u65, u66, u67, u68, u69, u70, u71, u72, u73, u74, u75, u76, u77, u78, u79, u80, u81, u82, u83, u84, u85, u86, u87, u88, u89, u90, u91, u92, u93, u94, u95, u96, u97, u98, u99, u100, u101, u102, u103, u104, u105, u106, u107, u108, u109, u110, u111, u112, u113, u114, u115, u116, u117, u118, u119, u120, u121, u122, u123, u124, u125, u126, u127, u128, u129, u130, u131, u132, u133, u134, u135, u136, u137, u138, u139, u140, u141, u142, u143, u144, u145, u146, u147, u148, u149, u150, u151, u152, u153, u154, u155, u156, u157, u158, u159, u160, u161, u162, u163, u164, u165, u166, u167, u168, u169, u170, u171, u172, u173, u174, u175, u176, u177, u178, u179, u180, u181, u182, u183, u184, u185, u186, u187, u188, u189, u190, u191, u192, u193, u194, u195, u196, u197, u198, u199, u200, u201, u202, u203, u204, u205, u206], defers := [] } w3 := by
  have HT := Lib.hid hT
  have HP := Lib.hid hP
  have HA := Lib.hid ha
  have HId := Lib.hid hid
  have HPu := Lib.hid hp
  have HQ := Lib.hid hQ
  have HC1 := Lib.hid hc1
  have HC2 := Lib.hid hc2
  clear hT hP ha hid hp hQ hc1 hc2
  simp only [codeOf, Tryz.f3, Option.getD_some]
  have HNx := Lib.hid (HP.out.next HT.out)
  have HFd := Lib.hid (fun (W : World) (hc : Ch [] w3 W) => (HP.out.quiet hc).find HId.out)
  have HRn := Lib.hid (fun (W : World) (hc : Ch [] w3 W) => rnext_any now (HP.out.quiet hc).rowv HP.out.wi.len)
  have HRf := Lib.hid (fun (W : World) (hc : Ch [] w3 W) => rfind_any now id (HP.out.quiet hc).rowv HP.out.wi.len)
  obtain ⟨a, cp, rfl⟩ := own_form HP.out.rowv
  unfold rw7 at HRn HRf
  unfold spV at HFd
  go_wp2_with fail
  with_reducible refine HNx.out.mono ?_
  rintro e w4 ⟨rfl, hc4⟩
  have m0 := (HP.out.quiet hc4).box.c0
  have m1 := (HP.out.quiet hc4).box.c1
  have HC4 := Lib.hid hc4
  clear hc4
  go_wp2_with fail
  with_reducible refine (HRn.out w4 HC4.out).mono ?_
  rintro e w5 ⟨R, rfl, hR, hc5⟩
  have HR := Lib.hid hR
  have HC5 := Lib.hid (HC4.out.trans hc5)
  clear hR hc5 m0 m1
  rename_i K1 hK1 K2 hK2
  have HK1 := Lib.hid hK1
  clear hK1
  go_wp2_with fail
  refine HK1.out _ _ ?_
  refine wp_seq_k (fun K3 hK3 => ?_)
  have HK3 := Lib.hid hK3
  clear hK3 HK1
  refine plays_t27 HT.out (HP.out.quiet HC5.out) HC1.out HC2.out HA.out HId.out HPu.out HR.out ?_
  intro y4 y130 y131 y132 y133 y134 y135 y136 y137 y138 y139 y140 y141 y142 y143 y144 y145 y146 y147 y148 y149 y150 y151 y152 y153 y154 y155 w6 hp6 hs6
  have HP6 := Lib.hid hp6
  have HS6 := Lib.hid (Nat.le_trans HC5.out.size hs6)
  have HFd := Lib.hid (fun (W : World) (hc : Ch [] w6 W) => (HP6.out.quiet hc).find HId.out)
  have HRf := Lib.hid (fun (W : World) (hc : Ch [] w6 W) => rfind_any now id (HP6.out.quiet hc).rowv HP6.out.wi.len)
  unfold rw7 at HRf
  unfold spV at HFd
  have a1 := (hp6.act 1 (by decide)).trans (congrArg some HC1.out)
  clear hp6 hs6 HC4 HC5 HR
  simp only [Exit.then]
  refine HK3.out _ _ ?_
  clear HK3
  go_wp2_with fail
  with_reducible refine (HFd.out w6 (Ch.refl _ _)).mono ?_
  rintro e w7 ⟨rfl, hc7⟩
  have hf8 := Four.new w7 (.int .i64 ((findS L id).lv : Int)) (.int .i64 (findS L id).sl) (.int .u64 (findS L id).at') (.int .u64 (findS L id).due) 35
  have hc8 := hc7.alloc (.cells #[.int .i64 ((findS L id).lv : Int), .int .i64 (findS L id).sl, .int .u64 (findS L id).at', .int .u64 (findS L id).due] 35)
  have a1 := ((HP6.out.quiet hc8).act 1 (by decide)).trans (congrArg some HC1.out)
  have m0 := (HP6.out.quiet hc8).box.c0
  have m1 := (HP6.out.quiet hc8).box.c1
  have HF8 := Lib.hid hf8
  have HC8 := Lib.hid hc8
  clear hf8 hc8 hc7
  go_wp2_with fail
  with_reducible refine (HRf.out _ HC8.out).mono ?_
  rintro e w9 ⟨rfl, hc9⟩
  have HF9 := Lib.hid (HF8.out.ch hc9 (by simp))
  have HC9 := Lib.hid (HC8.out.trans hc9)
  clear hc9 a1 m0 m1
  rename_i K1 hK1 K2 hK2
  have HK1 := Lib.hid hK1
  clear hK1
  go_wp2_with fail
  refine HK1.out _ _ ?_
  refine wp_seq_k (fun K3 hK3 => ?_)
  have HK3 := Lib.hid hK3
  clear hK3 HK1
  refine plays_t31 HT.out (HP6.out.quiet HC9.out) HC1.out HC2.out HA.out HId.out HPu.out HF9.out ?_
  intro z4 z167 z168 z169 z170 z171 z172 z173 z174 z175 z176 z177 z178 z179 z180 z181 z182 z183 z184 w10 hp10 hs10
  simp only [Exit.then]
  refine HK3.out _ _ ?_
  refine plays_t33 HT.out hp10 HC1.out HC2.out HA.out HId.out HPu.out ?_
  intro t4 t185 t186 t187 t188 t189 t190 t191 t192 t193 t194 t195 t196 t197 t198 t199 t200 t201 t202 t203 t204 t205 w11 hp11 hs11
  exact HQ.out hp11 (Nat.le_trans HS6.out (Nat.le_trans HC9.out.size (Nat.le_trans hs10 hs11)))
end Go.Proofs.YtcjemidflbfljaaGreatDoor

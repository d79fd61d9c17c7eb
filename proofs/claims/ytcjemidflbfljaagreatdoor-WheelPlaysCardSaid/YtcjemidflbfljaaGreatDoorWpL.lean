/-
  WheelPlays: what Now, Len, Ids tell.
-/
import Derived.Test.YtcjemidflbfljaaGreatDoorWpH
import Derived.Deep.RegionHeld3
namespace Go.Proofs.YtcjemidflbfljaaGreatDoor
open Go.RowKit Go.Maps Go.BigFrame

attribute [local go_sem] Oper.semAt_some

set_option maxRecDepth 100000 in
set_option maxHeartbeats 4000000 in
theorem plays_t33 {w w3 : World} {B M A : Nat} {c : Nat → Value} {now : Int} {puts : Nat} {L Lu : List Tm} {v u : Value} {id at' : Int} (hT : Mk.Tab w) (hP : PP w w3 B M A 3 c now puts L now v L u Lu) (hc1 : c 1 = .int .i64 id) (hc2 : c 2 = .int .u64 at') (ha : Wd at') (hid : wf64 id) (hp : puts < 4611686018427387904)
    {u0 u1 u2 u3 u4 u7 u9 u10 u11 u12 u13 u14 u15 u16 u17 u18 u19 u20 u21 u22 u23 u24 u25 u26 u27 u28 u29 u30 u31 u32 u33 u34 u35 u36 u37 u38 u39 u40 u41 u42 u43 u44 u45 u46 u47 u48 u49 u50 u51 u52 u53 u54 u55 u56 u57 u58 u59 u60 u61 u62 u63 u64 u65 u66 u67 u68 u69 u70 u71 u72 u73 u74 u75 u76 u77 u78 u79 u80 u81 u82 u83 u84 u85 u86 u87 u88 u89 u90 u91 u92 u93 u94 u95 u96 u97 u98 u99 u100 u101 u102 u103 u104 u105 u106 u107 u108 u109 u110 u111 u112 u113 u114 u115 u116 u117 u118 u119 u120 u121 u122 u123 u124 u125 u126 u127 u128 u129 u130 u131 u132 u133 u134 u135 u136 u137 u138 u139 u140 u141 u142 u143 u144 u145 u146 u147 u148 u149 u150 u151 u152 u153 u154 u155 u156 u157 u158 u159 u160 u161 u162 u163 u164 u165 u166 u167 u168 u169 u170 u171 u172 u173 u174 u175 u176 u177 u178 u179 u180 u181 u182 u183 u184 u185 u186 u187 u188 u189 u190 u191 u192 u193 u194 u195 u196 u197 u198 u199 u200 u201 u202 u203 u204 u205 u206 : Value} {Q : Exit → Act → World → Prop}
    (hQ : ∀ ⦃x4 x185 x186 x187 x188 x189 x190 x191 x192 x193 x194 x195 x196 x197 x198 x199 x200 x201 x202 x203 x204 x205 : Value⦄ ⦃wq : World⦄, PP w wq B M A 3 c now puts L now v L u Lu → w3.heap.size ≤ wq.heap.size → Q .normal { tmps := #[u0, u1, u2, u3, x4, .pointer (some ⟨B, 0, none⟩), .pointer (some ⟨M, 0, none⟩), u7, .pointer (some ⟨A, 0, none⟩), u9, u10, u11, u12, u13, u14, u15, u16, u17, u18, u19, u20, u21, u22, u23, u24, u25, u26, u27, u28, u29, u30, u31, u32, u33, u34, u35, u36, u37, u38, u39, u40, u41, u42, u43, u44, u45, u46, u47, u48, u49, u50, u51, u52, u53, u54, u55, u56, u57, u58, u59, u60, u61, u62, u63, u64, u65, u66, u67, u68, u69, u70, u71, u72, u73, u74, u75, u76, u77, u78, u79, u80, u81, u82, u83, u84, u85, u86, u87, u88, u89, u90, u91, u92, u93, u94, u95, u96, u97, u98, u99, u100, u101, u102, u103, u104, u105, u106, u107, u108, u109, u110, u111, u112, u113, u114, u115, u116, u117, u118, u119, u120, u121, u122, u123, u124, u125, u126, u127, u128, u129, u130, u131, u132, u133, u134, u135, u136, u137, u138, u139, u140, u141, u142, u143, u144, u145, u146, u147, u148, u149, u150, u151, u152, u153, u154, u155, u156, u157, u158, u159, u160, u161, u162, u163, u164, u165, u166, u167, u168, u169, u170, u171, u172, u173, u174, u175, u176, u177, u178, u179, u180, u181, u182, u183, u184, x185, x186, x187, x188, x189, x190, x191, x192, x193, x194, x195, x196, x197, x198, x199, x200, x201, x202, x203, x204, x205, u206], defers := [] } wq) :
    Code.wp Tryz.prog (codeOf [1, 1, 1, 0, 1, 1, 1, 1, 0, 1, 1, 1, 1, 1, 1, 1, 1, 1] (Tryz.f3.body.getD .skip)) Q { tmps := #[u0, u1, u2, u3, u4, .pointer (some ⟨B, 0, none⟩), .pointer (some ⟨M, 0, none⟩), u7, .pointer (some ⟨A, 0, none⟩), u9, u10, u11, u12, u13, u14, u15, u16, u17, u18, u19, u20, u21, u22, u23, u24, u25, u26, u27, u28, u29, u30, u31, u32, u33, u34, u35, u36, u37, u38, u39, u40, u41, u42, u43, u44, u45, u46, u47, u48, u49, u50, u51, u52, u53, u54, u55, u56, u57, u58, u59, u60, u61, u62, u63, u64, u65, u66, u67, u68, u69, u70, u71, u72, u73, u74, u75, u76, u77, u78, u79, u80, u81, u82, u83, u84, u85, u86, u87, u88, u89, u90, u91, u92, u93, u94, u95, u96, u97, u98, u99, u100, u101, u102, u103, u104, u105, u106, u107, u108, u109, u110, u111, u112, u113, u114, u115, u116, u117, u118, u119, u120, u121, u122, u123, u124, u125, u126, u127, u128, u129, u130, u131, u132, u133, u134, u135, u136, u137, u138, u139, u140, u141, u142, u143, u144, u145, u146, u147, u148, u149, u150, u151, u152, u153, u154, u155, u156, u157, u158, u159, u160, u161, u162, u163, u164, u165, u166, u167, u168, u169, u170, u171, u172, u173, u174, u175, u176, u177, u178, u179, u180, u181, u182, u183, u184, u185, u186, u187, u188, u189, u190, u191, u192, u193, u194, u195, u196, u197, u198, u199, u200, u201, u202, u203, u204, u205, u206], defers := [] } w3 := by
  have HT := Lib.hid hT
  have HP := Lib.hid hP
  have HA := Lib.hid ha
  have HId := Lib.hid hid
  have HPu := Lib.hid hp
  have HQ := Lib.hid hQ
  have HC1 := Lib.hid hc1
  have HC2 := Lib.hid hc2
  clear hT hP ha hid hp hQ hc1 hc2
  simp only [codeOf, Tryz.f3, Option.getD_some]
  obtain ⟨a, cp, rfl⟩ := own_form HP.out.rowv
  have hpd := HP.out.quiet (Ch.refl [] w3).drew
  obtain ⟨m0, m1, _, _⟩ := HP.out.box
  obtain ⟨d0, d1, _, _⟩ := hpd.box
  have HNw := Lib.hid hpd.nowOf
  have HLn := Lib.hid hpd.lenOf
  have HId2 := Lib.hid hpd.pids
  have HPd := Lib.hid hpd
  have hlen := HP.out.wi.len
  have HLen := Lib.hid hlen
  clear hpd hlen
  go_wp2_with fail
  go_region_held3 (fun w' => w'.cell? ⟨M, 0, none⟩ = some (.int .u64 now) ∧ w'.cell? ⟨M, 1, none⟩ = some (.slice a L.length cp)) (go_keep) (first
    | (go_at_call 17; with_reducible refine HNw.out.mono ?_; rintro e w4 ⟨rfl, rfl⟩)
    | (go_at_call 18; with_reducible refine HLn.out.mono ?_; rintro e w5 ⟨rfl, rfl⟩)
    | (go_at_call 19; with_reducible refine HId2.out.mono ?_; rintro e w6 ⟨r6, rfl, hr6, hc6⟩; obtain ⟨a6, c6, rfl⟩ := own_form hr6; have e0 := (HPd.out.quiet hc6).box.c0; have e1 := (HPd.out.quiet hc6).box.c1; have HR6 := Lib.hid hr6; have HP6 := Lib.hid (HPd.out.quiet hc6); have HC6 := Lib.hid hc6; clear hr6 hc6)
    | (go_at_call 20; have hri := HP6.out.rids; unfold rw7 at hri; with_reducible refine hri.mono ?_; rintro e w7 ⟨r7, rfl, hr7, hc7⟩; obtain ⟨a7, c7, rfl⟩ := own_form hr7; have hr6 := own_ch HR6.out hc7 (by simp); have HSm := Lib.hid (Mk.same_eq a6 a7 c6 c7 (idsL L) w7 (by rw [idsL_length]; exact Nat.le_trans HLen.out (by decide)) (ints_own hr6).1 (ints_own hr7).1); have g0 := (HP6.out.quiet hc7).box.c0; have g1 := (HP6.out.quiet hc7).box.c1; have HP7 := Lib.hid (HP6.out.quiet hc7); have HC7 := Lib.hid hc7; clear hr6 hr7 hc7)
    | (go_at_call 11; rw [← idsL_length L]; with_reducible refine HSm.out.mono ?_; rintro e w8 ⟨rfl, k, rfl⟩; have i0 := (HP7.out.quiet ((Ch.refl [] w7).drewN k)).box.c0; have i1 := (HP7.out.quiet ((Ch.refl [] w7).drewN k)).box.c1))
  go_wp2
  exact HQ.out (HP7.out.quiet ((Ch.refl [] w7).drewN k)) (Nat.le_trans HC6.out.size HC7.out.size)
end Go.Proofs.YtcjemidflbfljaaGreatDoor

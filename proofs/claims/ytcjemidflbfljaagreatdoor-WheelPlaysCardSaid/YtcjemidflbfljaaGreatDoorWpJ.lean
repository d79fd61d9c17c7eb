/-
  WheelPlays: what Next tells.
-/
import Derived.Test.YtcjemidflbfljaaGreatDoorWpH
import Derived.Deep.RegionHeld3
namespace Go.Proofs.YtcjemidflbfljaaGreatDoor
open Go.RowKit Go.Maps Go.BigFrame

attribute [local go_sem] Oper.semAt_some

set_option maxRecDepth 100000 in
set_option maxHeartbeats 4000000 in
theorem plays_t27 {w w3 : World} {B M A : Nat} {c : Nat → Value} {now : Int} {puts : Nat} {L Lu : List Tm} {v u : Value} {id at' : Int} {R : Int} (hT : Mk.Tab w) (hP : PP w w3 B M A 3 c now puts L now v L u Lu) (hc1 : c 1 = .int .i64 id) (hc2 : c 2 = .int .u64 at') (ha : Wd at') (hid : wf64 id) (hp : puts < 4611686018427387904) (hN : NextIs L R)
    {u0 u1 u2 u3 u4 u7 u9 u10 u11 u12 u13 u14 u15 u16 u17 u18 u22 u23 u24 u25 u26 u27 u28 u29 u30 u31 u32 u33 u34 u35 u36 u37 u38 u39 u40 u41 u42 u43 u44 u45 u46 u47 u48 u49 u50 u51 u52 u53 u54 u55 u56 u57 u58 u59 u60 u61 u62 u63 u64 u65 u66 u67 u68 u69 u70 u71 u72 u73 u74 u75 u76 u77 u78 u79 u80 u81 u82 u83 u84 u85 u86 u87 u88 u89 u90 u91 u92 u93 u94 u95 u96 u97 u98 u99 u100 u101 u102 u103 u104 u105 u106 u107 u108 u109 u110 u111 u112 u113 u114 u115 u116 u117 u118 u119 u120 u121 u122 u123 u124 u125 u126 u127 u128 u129 u130 u131 u132 u133 u134 u135 u136 u137 u138 u139 u140 u141 u142 u143 u144 u145 u146 u147 u148 u149 u150 u151 u152 u153 u154 u155 u156 u157 u158 u159 u160 u161 u162 u163 u164 u165 u166 u167 u168 u169 u170 u171 u172 u173 u174 u175 u176 u177 u178 u179 u180 u181 u182 u183 u184 u185 u186 u187 u188 u189 u190 u191 u192 u193 u194 u195 u196 u197 u198 u199 u200 u201 u202 u203 u204 u205 u206 : Value} {Q : Exit → Act → World → Prop}
    (hQ : ∀ ⦃x4 x130 x131 x132 x133 x134 x135 x136 x137 x138 x139 x140 x141 x142 x143 x144 x145 x146 x147 x148 x149 x150 x151 x152 x153 x154 x155 : Value⦄ ⦃wq : World⦄, PP w wq B M A 3 c now puts L now v L u Lu → w3.heap.size ≤ wq.heap.size → Q .normal { tmps := #[u0, u1, u2, u3, x4, .pointer (some ⟨B, 0, none⟩), .pointer (some ⟨M, 0, none⟩), u7, .pointer (some ⟨A, 0, none⟩), u9, u10, u11, u12, u13, u14, u15, u16, u17, u18, .int .u64 (nextD (DL L)), .bool (nextO (DL L)), .int .i64 R, u22, u23, u24, u25, u26, u27, u28, u29, u30, u31, u32, u33, u34, u35, u36, u37, u38, u39, u40, u41, u42, u43, u44, u45, u46, u47, u48, u49, u50, u51, u52, u53, u54, u55, u56, u57, u58, u59, u60, u61, u62, u63, u64, u65, u66, u67, u68, u69, u70, u71, u72, u73, u74, u75, u76, u77, u78, u79, u80, u81, u82, u83, u84, u85, u86, u87, u88, u89, u90, u91, u92, u93, u94, u95, u96, u97, u98, u99, u100, u101, u102, u103, u104, u105, u106, u107, u108, u109, u110, u111, u112, u113, u114, u115, u116, u117, u118, u119, u120, u121, u122, u123, u124, u125, u126, u127, u128, u129, x130, x131, x132, x133, x134, x135, x136, x137, x138, x139, x140, x141, x142, x143, x144, x145, x146, x147, x148, x149, x150, x151, x152, x153, x154, x155, u156, u157, u158, u159, u160, u161, u162, u163, u164, u165, u166, u167, u168, u169, u170, u171, u172, u173, u174, u175, u176, u177, u178, u179, u180, u181, u182, u183, u184, u185, u186, u187, u188, u189, u190, u191, u192, u193, u194, u195, u196, u197, u198, u199, u200, u201, u202, u203, u204, u205, u206], defers := [] } wq) :
    Code.wp Tryz.prog (codeOf [1, 1, 1, 0, 1, 1, 1, 1, 0, 1, 1, 1, 1, 1, 0] (Tryz.f3.body.getD .skip)) Q { tmps := #[u0, u1, u2, u3, u4, .pointer (some ⟨B, 0, none⟩), .pointer (some ⟨M, 0, none⟩), u7, .pointer (some ⟨A, 0, none⟩), u9, u10, u11, u12, u13, u14, u15, u16, u17, u18, .int .u64 (nextD (DL L)), .bool (nextO (DL L)), .int .i64 R, u22, u23, u24, u25, u26, u27, u28, u29, u30, u31, u32, u33, u34, u35, u36, u37, u38, u39, u40, u41, u42, u43, u44, u45, u46, u47, u48, u49, u50, u51, u52, u53, u54, u55, u56, u57, u58, u59, u60, u61, u62, u63, u64, u65, u66, u67, u68, u69, u70, u71, u72, u73, u74, u75, u76, u77, u78, u79, u80, u81, u82, u83, u84, u85, u86, u87, u88, u89, u90, u91, u92, u93, u94, u95, u96, u97, u98, u99, u100, u101, u102, u103, u104, u105, u106, u107, u108, u109, u110, u111, u112, u113, u114, u115, u116, u117, u118, u119, u120, u121, u122, u123, u124, u125, u126, u127, u128, u129, u130, u131, u132, u133, u134, u135, u136, u137, u138, u139, u140, u141, u142, u143, u144, u145, u146, u147, u148, u149, u150, u151, u152, u153, u154, u155, u156, u157, u158, u159, u160, u161, u162, u163, u164, u165, u166, u167, u168, u169, u170, u171, u172, u173, u174, u175, u176, u177, u178, u179, u180, u181, u182, u183, u184, u185, u186, u187, u188, u189, u190, u191, u192, u193, u194, u195, u196, u197, u198, u199, u200, u201, u202, u203, u204, u205, u206], defers := [] } w3 := by
  have HT := Lib.hid hT
  have HP := Lib.hid hP
  have HA := Lib.hid ha
  have HId := Lib.hid hid
  have HPu := Lib.hid hp
  have HQ := Lib.hid hQ
  have HC1 := Lib.hid hc1
  have HC2 := Lib.hid hc2
  clear hT hP ha hid hp hQ hc1 hc2
  have HN := Lib.hid hN
  clear hN
  simp only [codeOf, Tryz.f3, Option.getD_some]
  rcases next_out HN.out with ⟨hnil, rfl⟩ | ⟨j, x, rfl, hjl, hjx, hbest⟩
  · have e1 : nextD (DL L) = 0 := by rw [hnil, DL_nil]; rfl
    have e2 : nextO (DL L) = false := by rw [hnil, DL_nil]; rfl
    have hq := HQ.out
    simp only [e1, e2] at hq
    have HQ' := Lib.hid hq
    clear HQ hq
    rw [e1, e2]
    clear e1 e2 hnil
    go_wp2
    exact HQ'.out HP.out (Nat.le_refl _)
  · have e0 := best_head HP.out.wi.rise HP.out.wi.nd hbest
    have e1 : nextD (DL L) = x.sp.due := by rw [e0]; rfl
    have e2 : nextO (DL L) = true := by rw [e0]; rfl
    have hq := HQ.out
    simp only [e1, e2] at hq
    have HQ' := Lib.hid hq
    clear HQ hq
    rw [e1, e2]
    clear e0 e1 e2 hbest
    obtain ⟨g, cp, hv, _, _, _, _, c0, c1, c2, c3, c4⟩ := HP.out.rowv.cells hjx
    subst hv
    obtain ⟨m0, m1, _, _⟩ := HP.out.box
    have hlen := HP.out.wi.len
    have hj0 : (0 : Int) ≤ (j : Int) := by omega
    have hj1 : (j : Int) < (L.length : Int) := by omega
    have hd0 : decide ((0 : Int) ≤ (j : Int)) = true := decide_eq_true hj0
    clear hjx
    go_wp2
    exact HQ'.out HP.out (Nat.le_refl _)
end Go.Proofs.YtcjemidflbfljaaGreatDoor

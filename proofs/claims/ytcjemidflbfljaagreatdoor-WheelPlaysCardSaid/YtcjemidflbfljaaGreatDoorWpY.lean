/-
  WheelPlays: To.
-/
import Derived.Test.YtcjemidflbfljaaGreatDoorWpH
import Derived.Deep.RegionHeld3
namespace Go.Proofs.YtcjemidflbfljaaGreatDoor
open Go.RowKit Go.Maps Go.BigFrame

attribute [local go_sem] Oper.semAt_some

set_option maxRecDepth 100000 in
set_option maxHeartbeats 4000000 in
theorem plays_to {w w3 : World} {B M A : Nat} {c : Nat → Value} {now : Int} {puts : Nat} {L Lu : List Tm} {v u : Value} {id at' : Int} (hT : Mk.Tab w) (hP : PP w w3 B M A 3 c now puts L now v L u Lu) (hc1 : c 1 = .int .i64 id) (hc2 : c 2 = .int .u64 at') (ha : Wd at') (hid : wf64 id) (hp : puts < 4611686018427387904)
    {u0 u1 u2 u3 u4 u7 u9 u10 u11 u12 u13 u14 u15 u16 u17 u18 u19 u20 u21 u22 u23 u24 u25 u26 u27 u28 u29 u30 u31 u32 u33 u34 u35 u36 u37 u38 u39 u40 u41 u42 u43 u44 u45 u46 u47 u48 u49 u50 u51 u52 u53 u54 u55 u56 u57 u58 u59 u60 u61 u62 u63 u64 u65 u66 u67 u68 u69 u70 u71 u72 u73 u74 u75 u76 u77 u78 u79 u80 u81 u82 u83 u84 u85 u86 u87 u88 u89 u90 u91 u92 u93 u94 u95 u96 u97 u98 u99 u100 u101 u102 u103 u104 u105 u106 u107 u108 u109 u110 u111 u112 u113 u114 u115 u116 u117 u118 u119 u120 u121 u122 u123 u124 u125 u126 u127 u128 u129 u130 u131 u132 u133 u134 u135 u136 u137 u138 u139 u140 u141 u142 u143 u144 u145 u146 u147 u148 u149 u150 u151 u152 u153 u154 u155 u156 u157 u158 u159 u160 u161 u162 u163 u164 u165 u166 u167 u168 u169 u170 u171 u172 u173 u174 u175 u176 u177 u178 u179 u180 u181 u182 u183 u184 u185 u186 u187 u188 u189 u190 u191 u192 u193 u194 u195 u196 u197 u198 u199 u200 u201 u202 u203 u204 u205 u206 : Value} {Q : Exit → Act → World → Prop}
    (hQ : ∀ ⦃x4 x17 x18 x46 x47 x48 x49 x50 x51 x52 x53 x54 x55 x56 x57 x58 x59 x60 : Value⦄ ⦃wq : World⦄, (∃ now' L' v', PP w wq B M A 3 c now' puts L' now' v' L' v' L') → w3.heap.size ≤ wq.heap.size → Q .normal { tmps := #[u0, u1, u2, u3, x4, .pointer (some ⟨B, 0, none⟩), .pointer (some ⟨M, 0, none⟩), u7, .pointer (some ⟨A, 0, none⟩), u9, u10, u11, u12, u13, u14, u15, u16, x17, x18, u19, u20, u21, u22, u23, u24, u25, u26, u27, u28, u29, u30, u31, u32, u33, u34, u35, u36, u37, u38, u39, u40, u41, u42, u43, u44, u45, x46, x47, x48, x49, x50, x51, x52, x53, x54, x55, x56, x57, x58, x59, x60, u61, u62, u63, u64, u65, u66, u67, u68, u69, u70, u71, u72, u73, u74, u75, u76, u77, u78, u79, u80, u81, u82, u83, u84, u85, u86, u87, u88, u89, u90, u91, u92, u93, u94, u95, u96, u97, u98, u99, u100, u101, u102, u103, u104, u105, u106, u107, u108, u109, u110, u111, u112, u113, u114, u115, u116, u117, u118, u119, u120, u121, u122, u123, u124, u125, u126, u127, u128, u129, u130, u131, u132, u133, u134, u135, u136, u137, u138, u139, u140, u141, u142, u143, u144, u145, u146, u147, u148, u149, u150, u151, u152, u153, u154, u155, u156, u157, u158, u159, u160, u161, u162, u163, u164, u165, u166, u167, u168, u169, u170, u171, u172, u173, u174, u175, u176, u177, u178, u179, u180, u181, u182, u183, u184, u185, u186, u187, u188, u189, u190, u191, u192, u193, u194, u195, u196, u197, u198, u199, u200, u201, u202, u203, u204, u205, u206], defers := [] } wq) :
    Code.wp Tryz.prog (codeOf [1, 1, 1, 0, 1, 1, 1, 1, 0, 1, 1, 0, 1, 1, 1, 1, 1, 1] (Tryz.f3.body.getD .skip)) Q { tmps := #[u0, u1, u2, u3, u4, .pointer (some ⟨B, 0, none⟩), .pointer (some ⟨M, 0, none⟩), u7, .pointer (some ⟨A, 0, none⟩), u9, u10, u11, u12, u13, u14, u15, u16, u17, u18, u19, u20, u21, u22, u23, u24, u25, u26, u27, u28, u29, u30, u31, u32, u33, u34, u35, u36, u37, u38, u39, u40, u41, u42, u43, u44, u45, u46, u47, u48, u49, u50, u51, u52, u53, u54, u55, u56, u57, u58, u59, u60, u61, u62, u63, u64, u65, u66, u67, u68, u69, u70, u71, u72, u73, u74, u75, u76, u77, u78, u79, u80, u81, u82, u83, u84, u85, u86, u87, u88, u89, u90, u91, u92, u93, u94, u95, u96, u97, u98, u99, u100, u101, u102, u103, u104, u105, u106, u107, u108, u109, u110, u111, u112, u113, u114, u115, u116, u117, u118, u119, u120, u121, u122, u123, u124, u125, u126, u127, u128, u129, u130, u131, u132, u133, u134, u135, u136, u137, u138, u139, u140, u141, u142, u143, u144, u145, u146, u147, u148, u149, u150, u151, u152, u153, u154, u155, u156, u157, u158, u159, u160, u161, u162, u163, u164, u165, u166, u167, u168, u169, u170, u171, u172, u173, u174, u175, u176, u177, u178, u179, u180, u181, u182, u183, u184, u185, u186, u187, u188, u189, u190, u191, u192, u193, u194, u195, u196, u197, u198, u199, u200, u201, u202, u203, u204, u205, u206], defers := [] } w3 := by
  have HT := Lib.hid hT
  have HP := Lib.hid hP
  have HA := Lib.hid ha
  have HId := Lib.hid hid
  have HPu := Lib.hid hp
  have HQ := Lib.hid hQ
  have HC1 := Lib.hid hc1
  have HC2 := Lib.hid hc2
  clear hT hP ha hid hp hQ hc1 hc2
  simp only [codeOf, Tryz.f3, Option.getD_some]
  have a0 := HP.out.act 0 (by decide)
  have a1 := (HP.out.act 1 (by decide)).trans (congrArg some HC1.out)
  have a2 := (HP.out.act 2 (by decide)).trans (congrArg some HC2.out)
  obtain ⟨m0, m1, _, _⟩ := HP.out.box
  obtain ⟨now', L', xs, -, hxl, h1⟩ := HP.out.to_both HT.out HA.out
  simp only [rw7] at h1
  have H1 := Lib.hid h1
  have HXl := Lib.hid hxl
  clear h1 hxl
  go_wp2_with fail
  with_reducible refine H1.out.mono ?_
  rintro e w4 ⟨v', r4, rfl, hp4, hr4, hc4, h2⟩
  obtain ⟨xa, xc, rfl⟩ := own_form hp4.rowu
  obtain ⟨ra, rc, rfl⟩ := own_form hr4
  have HP4 := Lib.hid hp4
  have H2 := Lib.hid h2
  have HR4 := Lib.hid hr4
  have HC4 := Lib.hid hc4
  clear hp4 hc4 hr4 h2 a0 a1 a2 m0 m1
  have hq5 := (Ch.refl [] w4).alloc (.cells #[.int .u64 now', .slice xa L'.length xc] 28)
  have hn1 := Box2.new w4 (.int .u64 now') (.slice xa L'.length xc) 28
  have a2 := ((HP4.out.quiet hq5).act 2 (by decide)).trans (congrArg some HC2.out)
  have HN1 := Lib.hid hn1
  have HQ5 := Lib.hid hq5
  clear hn1 hq5
  go_wp2_with fail
  with_reducible refine (H2.out _ HQ5.out).mono ?_
  rintro e w6 ⟨r6, rfl, hr6, hp6, hc6⟩
  obtain ⟨qa, qc, rfl⟩ := own_form hr6
  have HS6 := Lib.hid (Nat.le_trans HC4.out.size (Nat.le_trans HQ5.out.size hc6.size))
  have HN3 := Lib.hid (HN1.out.chP hc6 (by have := HC4.out.size; omega))
  have hr5 := own_chP (own_ch HR4.out HQ5.out (by simp)) hc6 (fun g hg => by have := HR4.out.lt g hg; omega)
  have HSm := Lib.hid (Mk.same_eq qa ra qc rc xs w6 (Nat.le_trans HXl.out (by decide)) (ints_own hr6).1 (ints_own hr5).1)
  have HP6 := Lib.hid hp6
  clear hp6 hc6 hr6 hr5 a2
  go_wp2_with fail
  with_reducible refine HSm.out.mono ?_
  rintro e w8 ⟨rfl, k, rfl⟩
  have hk := (Ch.refl [] w6).drewN k
  have HP8 := Lib.hid (HP6.out.quiet hk)
  have HN8 := Lib.hid (HN3.out.ch hk (by simp))
  have HS8 := Lib.hid (Nat.le_trans HS6.out hk.size)
  obtain ⟨z0, z1, _, _⟩ := HN8.out
  obtain ⟨m0, m1, mf0, mf1⟩ := HP8.out.box
  go_wp2
  exact HQ.out ⟨_, _, _, HP8.out.store now'⟩ (by simp only [World.size_setCell]; exact HS8.out)
end Go.Proofs.YtcjemidflbfljaaGreatDoor

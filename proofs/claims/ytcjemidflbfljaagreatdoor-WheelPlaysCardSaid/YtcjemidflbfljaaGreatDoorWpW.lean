/-
  WheelPlays: Put.
-/
import Derived.Test.YtcjemidflbfljaaGreatDoorWpH
import Derived.Deep.RegionHeld3
namespace Go.Proofs.YtcjemidflbfljaaGreatDoor
open Go.RowKit Go.Maps Go.BigFrame

attribute [local go_sem] Oper.semAt_some

set_option maxRecDepth 100000 in
set_option maxHeartbeats 4000000 in
theorem plays_put {w w3 : World} {B M A : Nat} {c : Nat → Value} {now : Int} {puts : Nat} {L Lu : List Tm} {v u : Value} {id at' : Int} (hT : Mk.Tab w) (hP : PP w w3 B M A 3 c now puts L now v L u Lu) (hc1 : c 1 = .int .i64 id) (hc2 : c 2 = .int .u64 at') (ha : Wd at') (hid : wf64 id) (hp : puts < 4611686018427387904)
    {u0 u1 u2 u3 u4 u7 u9 u10 u11 u12 u13 u14 u15 u16 u17 u18 u19 u20 u21 u22 u23 u24 u25 u26 u27 u28 u29 u30 u31 u32 u33 u34 u35 u36 u37 u38 u39 u40 u41 u42 u43 u44 u45 u46 u47 u48 u49 u50 u51 u52 u53 u54 u55 u56 u57 u58 u59 u60 u61 u62 u63 u64 u65 u66 u67 u68 u69 u70 u71 u72 u73 u74 u75 u76 u77 u78 u79 u80 u81 u82 u83 u84 u85 u86 u87 u88 u89 u90 u91 u92 u93 u94 u95 u96 u97 u98 u99 u100 u101 u102 u103 u104 u105 u106 u107 u108 u109 u110 u111 u112 u113 u114 u115 u116 u117 u118 u119 u120 u121 u122 u123 u124 u125 u126 u127 u128 u129 u130 u131 u132 u133 u134 u135 u136 u137 u138 u139 u140 u141 u142 u143 u144 u145 u146 u147 u148 u149 u150 u151 u152 u153 u154 u155 u156 u157 u158 u159 u160 u161 u162 u163 u164 u165 u166 u167 u168 u169 u170 u171 u172 u173 u174 u175 u176 u177 u178 u179 u180 u181 u182 u183 u184 u185 u186 u187 u188 u189 u190 u191 u192 u193 u194 u195 u196 u197 u198 u199 u200 u201 u202 u203 u204 u205 u206 : Value} {Q : Exit → Act → World → Prop}
    (hQ : ∀ ⦃x4 x9 x10 x11 x12 x13 x64 x65 x66 x67 x68 x69 x70 x71 x72 x73 x74 x75 x76 x77 x78 x79 x80 x81 x82 x83 x84 x85 x86 x87 x88 x89 x90 x91 x92 : Value⦄ ⦃wq : World⦄, (∃ puts' L' v', puts' ≤ puts + 1 ∧ PP w wq B M A 3 c now puts' L' now v' L' v' L') → w3.heap.size ≤ wq.heap.size → Q .normal { tmps := #[u0, u1, u2, u3, x4, .pointer (some ⟨B, 0, none⟩), .pointer (some ⟨M, 0, none⟩), u7, .pointer (some ⟨A, 0, none⟩), x9, x10, x11, x12, x13, u14, u15, u16, u17, u18, u19, u20, u21, u22, u23, u24, u25, u26, u27, u28, u29, u30, u31, u32, u33, u34, u35, u36, u37, u38, u39, u40, u41, u42, u43, u44, u45, u46, u47, u48, u49, u50, u51, u52, u53, u54, u55, u56, u57, u58, u59, u60, u61, u62, u63, x64, x65, x66, x67, x68, x69, x70, x71, x72, x73, x74, x75, x76, x77, x78, x79, x80, x81, x82, x83, x84, x85, x86, x87, x88, x89, x90, x91, x92, u93, u94, u95, u96, u97, u98, u99, u100, u101, u102, u103, u104, u105, u106, u107, u108, u109, u110, u111, u112, u113, u114, u115, u116, u117, u118, u119, u120, u121, u122, u123, u124, u125, u126, u127, u128, u129, u130, u131, u132, u133, u134, u135, u136, u137, u138, u139, u140, u141, u142, u143, u144, u145, u146, u147, u148, u149, u150, u151, u152, u153, u154, u155, u156, u157, u158, u159, u160, u161, u162, u163, u164, u165, u166, u167, u168, u169, u170, u171, u172, u173, u174, u175, u176, u177, u178, u179, u180, u181, u182, u183, u184, u185, u186, u187, u188, u189, u190, u191, u192, u193, u194, u195, u196, u197, u198, u199, u200, u201, u202, u203, u204, u205, u206], defers := [] } wq) :
    Code.wp Tryz.prog (codeOf [1, 1, 1, 0, 1, 1, 1, 1, 0, 1, 1, 0, 1, 1, 1, 0] (Tryz.f3.body.getD .skip)) Q { tmps := #[u0, u1, u2, u3, u4, .pointer (some ⟨B, 0, none⟩), .pointer (some ⟨M, 0, none⟩), u7, .pointer (some ⟨A, 0, none⟩), u9, u10, u11, u12, u13, u14, u15, u16, u17, u18, u19, u20, u21, u22, u23, u24, u25, u26, u27, u28, u29, u30, u31, u32, u33, u34, u35, u36, u37, u38, u39, u40, u41, u42, u43, u44, u45, u46, u47, u48, u49, u50, u51, u52, u53, u54, u55, u56, u57, u58, u59, u60, u61, u62, u63, u64, u65, u66, u67, u68, u69, u70, u71, u72, u73, u74, u75, u76, u77, u78, u79, u80, u81, u82, u83, u84, u85, u86, u87, u88, u89, u90, u91, u92, u93, u94, u95, u96, u97, u98, u99, u100, u101, u102, u103, u104, u105, u106, u107, u108, u109, u110, u111, u112, u113, u114, u115, u116, u117, u118, u119, u120, u121, u122, u123, u124, u125, u126, u127, u128, u129, u130, u131, u132, u133, u134, u135, u136, u137, u138, u139, u140, u141, u142, u143, u144, u145, u146, u147, u148, u149, u150, u151, u152, u153, u154, u155, u156, u157, u158, u159, u160, u161, u162, u163, u164, u165, u166, u167, u168, u169, u170, u171, u172, u173, u174, u175, u176, u177, u178, u179, u180, u181, u182, u183, u184, u185, u186, u187, u188, u189, u190, u191, u192, u193, u194, u195, u196, u197, u198, u199, u200, u201, u202, u203, u204, u205, u206], defers := [] } w3 := by
  have HT := Lib.hid hT
  have HP := Lib.hid hP
  have HA := Lib.hid ha
  have HId := Lib.hid hid
  have HPu := Lib.hid hp
  have HQ := Lib.hid hQ
  have HC1 := Lib.hid hc1
  have HC2 := Lib.hid hc2
  clear hT hP ha hid hp hQ hc1 hc2
  simp only [codeOf, Tryz.f3, Option.getD_some]
  have a0 := HP.out.act 0 (by decide)
  have a1 := (HP.out.act 1 (by decide)).trans (congrArg some HC1.out)
  have a2 := (HP.out.act 2 (by decide)).trans (congrArg some HC2.out)
  obtain ⟨m0, m1, _, _⟩ := HP.out.box
  obtain ⟨⟨lv, sl, sa, sd⟩, E, puts', L', hle, h1, h2⟩ := HP.out.put_both id HA.out HPu.out
  simp only [rw7, spV] at h1 h2
  have H1 := Lib.hid h1
  have H2 := Lib.hid h2
  have HLe := Lib.hid hle
  clear h1 h2 hle
  go_wp2_with fail
  with_reducible refine H1.out.mono ?_
  rintro e w4 ⟨v', rfl, hp4, hc4⟩
  obtain ⟨xa, xc, rfl⟩ := own_form hp4.rowu
  have HP4 := Lib.hid hp4
  have HC4 := Lib.hid hc4
  clear hp4 hc4 a0 a1 a2 m0 m1
  have hq5 := ((Ch.refl [] w4).alloc (.cells #[.int .u64 now, .slice xa L'.length xc] 28)).alloc (.cells #[.int .i64 lv, .int .i64 sl, .int .u64 sa, .int .u64 sd] 32)
  have hn1 := (Box2.new w4 (.int .u64 now) (.slice xa L'.length xc) 28).alloc (.cells #[.int .i64 lv, .int .i64 sl, .int .u64 sa, .int .u64 sd] 32)
  have hn2 := Four.new (w4.alloc (.cells #[.int .u64 now, .slice xa L'.length xc] 28)) (.int .i64 lv) (.int .i64 sl) (.int .u64 sa) (.int .u64 sd) 32
  simp only [World.size_alloc] at hn2
  have a1 := ((HP4.out.quiet hq5).act 1 (by decide)).trans (congrArg some HC1.out)
  have a2 := ((HP4.out.quiet hq5).act 2 (by decide)).trans (congrArg some HC2.out)
  have HN1 := Lib.hid hn1
  have HN2 := Lib.hid hn2
  have HQ5 := Lib.hid hq5
  clear hn1 hn2 hq5
  go_wp2_with fail
  with_reducible refine (H2.out _ _ _ HP4.out HQ5.out).mono ?_
  rintro e w6 ⟨rfl, hp6, hc6⟩
  have HS6 := Lib.hid (Nat.le_trans HC4.out.size (Nat.le_trans HQ5.out.size hc6.size))
  have HN3 := Lib.hid (HN1.out.chP hc6 (by omega))
  have HN4 := Lib.hid (HN2.out.chP hc6 (by omega))
  have HP6 := Lib.hid hp6
  clear hp6 hc6 a1 a2
  clear HN1 HN2 HQ5 H1 H2 HP4 HC4
  generalize w4.heap.size = X at *
  have hf7 := Four.new w6 (.int .i64 lv) (.int .i64 sl) (.int .u64 sa) (.int .u64 sd) 35
  have hq7 := (Ch.refl [] w6).alloc (.cells #[.int .i64 lv, .int .i64 sl, .int .u64 sa, .int .u64 sd] 35)
  obtain ⟨w7, hw7⟩ : ∃ w7, w6.alloc (.cells #[.int .i64 lv, .int .i64 sl, .int .u64 sa, .int .u64 sd] 35) = w7 := ⟨_, rfl⟩
  rw [hw7] at hf7 hq7
  have HF7 := Lib.hid hf7
  have HN5 := Lib.hid (HN3.out.ch hq7 (by simp))
  have HN6 := Lib.hid (HN4.out.ch hq7 (by simp))
  have HP7 := Lib.hid (HP6.out.quiet hq7)
  have HS7 := Lib.hid (Nat.le_trans HS6.out hq7.size)
  have HW := Lib.hid hw7
  clear hf7 hq7
  obtain ⟨G, f', hf1, hf2⟩ := worlds_of w7
  have hx0 : ∀ g : G, (f' g).cell? ⟨w6.heap.size, 0, none⟩ = some (.int .i64 lv) := fun g => (HF7.out.ch (hf1 g) (by simp)).c0
  have hx1 : ∀ g : G, (f' g).cell? ⟨w6.heap.size, 1, none⟩ = some (.int .i64 sl) := fun g => (HF7.out.ch (hf1 g) (by simp)).c1
  have hx2 : ∀ g : G, (f' g).cell? ⟨w6.heap.size, 2, none⟩ = some (.int .u64 sa) := fun g => (HF7.out.ch (hf1 g) (by simp)).c2
  have hx3 : ∀ g : G, (f' g).cell? ⟨w6.heap.size, 3, none⟩ = some (.int .u64 sd) := fun g => (HF7.out.ch (hf1 g) (by simp)).c3
  have hy0 : ∀ g : G, (f' g).cell? ⟨X + 1, 0, none⟩ = some (.int .i64 lv) := fun g => (HN6.out.ch (hf1 g) (by simp)).c0
  have hy1 : ∀ g : G, (f' g).cell? ⟨X + 1, 1, none⟩ = some (.int .i64 sl) := fun g => (HN6.out.ch (hf1 g) (by simp)).c1
  have hy2 : ∀ g : G, (f' g).cell? ⟨X + 1, 2, none⟩ = some (.int .u64 sa) := fun g => (HN6.out.ch (hf1 g) (by simp)).c2
  have hy3 : ∀ g : G, (f' g).cell? ⟨X + 1, 3, none⟩ = some (.int .u64 sd) := fun g => (HN6.out.ch (hf1 g) (by simp)).c3
  have hne : Nonempty G := ⟨(hf2 w7 (Ch.refl _ _)).choose⟩
  have HX1 := Lib.hid hf1
  have HX2 := Lib.hid hf2
  have HQ7 := Ch.refl [] w7
  clear hf1 hf2 hw7
  go_wp2_with fail
  rw [HW.out]
  refine wp_region_worlds f' (by kernel_rfl) (by kernel_rfl) (HX2.out _ HQ7.drew) ?_
  repeat (go_big_quiet_step (first
    | (with_reducible refine (ofs_any _ _ _ _ _).mono ?_; rintro r w' ⟨rfl, hcw⟩; exact ⟨rfl, HX2.out w' ((HX1.out _).trans hcw)⟩)))
  refine wpQuiet_nil ?_
  rintro _ ⟨gz, rfl⟩
  have HPz := Lib.hid (HP7.out.quiet (HX1.out gz))
  have HNz := Lib.hid (HN5.out.ch (HX1.out gz) (by simp))
  have HSz := Lib.hid (Nat.le_trans HS7.out (HX1.out gz).size)
  generalize f' gz = wz at *
  clear hx0 hx1 hx2 hx3 hy0 hy1 hy2 hy3 hne HQ7
  obtain ⟨z0, z1, _, _⟩ := HNz.out
  obtain ⟨m0, m1, mf0, mf1⟩ := HPz.out.box
  go_wp2
  exact HQ.out ⟨_, _, _, HLe.out, HPz.out.store now⟩ (by simp only [World.size_setCell]; exact HSz.out)
end Go.Proofs.YtcjemidflbfljaaGreatDoor

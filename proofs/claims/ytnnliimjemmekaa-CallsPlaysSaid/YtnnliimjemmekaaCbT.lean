/-
  CallsPlays: a part (tail).
-/
import Derived.Test.YtnnliimjemmekaaCbC
import Derived.Deep.RegionHeld3
import Derived.Deep.CutBlock
namespace Go.Proofs.Ytnnliimjemmekaa
open Go.RowKit Go.Maps Go.BigFrame
open rC (Th flat)

attribute [local go_sem] Oper.semAt_some

set_option maxRecDepth 100000 in
set_option maxHeartbeats 4000000 in
theorem plays_tail {w w3 : World} {base top A n b : Nat} {last : Int} {M : List Cb} {v : Value} (hP : PS w w3 base top A n b last M v) (hn6 : n ≤ 6)
    {u1 u2 u3 u4 u6 u8 u9 u10 u11 u12 u13 u14 u15 u16 u17 u18 u19 u20 u21 u22 u23 u24 u25 u26 u27 u28 u29 u30 u31 u32 u33 u34 u35 u36 u37 u38 u39 u40 u41 u42 u43 u44 u45 u46 u47 u48 u49 u50 u51 u52 u53 u54 u55 u56 u57 u58 u59 u60 u61 u62 u63 u64 u65 u66 u67 u68 u69 u70 u71 u72 u73 u74 u75 u76 u77 u78 u79 u80 u81 u82 u83 u84 u85 u86 u87 u88 u89 u90 u91 u92 u93 u94 u95 u96 u97 u98 u99 u100 u101 u102 u103 u104 u105 u106 u107 u108 u109 u110 u111 u112 u113 u114 u115 u116 u117 u118 u119 u120 u121 u122 u123 u124 u125 u126 u127 u128 u129 u130 u131 u132 u133 u134 u135 u136 u137 u138 u139 u140 u141 u142 u143 u144 u145 u146 u147 u148 u149 u150 u151 u152 u153 u154 u155 u156 u157 u158 u159 u160 u161 u162 u163 u164 u165 u166 u167 u168 u169 u170 u171 u172 u173 u174 u175 u176 u177 u178 u179 u180 u181 u182 u183 u184 u185 u186 u187 u188 u189 u190 u191 u192 u193 u194 u195 u196 u197 u198 u199 u200 u201 u202 u203 u204 u205 u206 u207 u208 : Value} {Q : Exit → Act → World → Prop}
    (hQ : ∀ ⦃x4 x17 x18 x19 x20 x21 x22 x111 x112 x113 x114 x115 x116 x117 x118 x119 x120 x121 x122 x123 x124 x125 x126 x127 x128 x129 x130 x131 x132 x133 x134 x135 x136 x137 x138 x139 x140 x141 x142 x143 x144 x145 x146 x147 x148 x149 x150 x151 x152 x153 x154 x155 x156 x157 x158 x159 x160 x161 x162 x163 x164 x165 x166 x167 x168 x169 x170 x171 x172 x173 x174 x175 x176 x177 x178 x179 x180 x181 x182 x183 x184 x185 x186 x187 x188 x189 x190 x191 x192 x193 x194 x195 x196 x197 x198 x199 x200 x201 x202 x203 x204 x205 x206 x207 : Value⦄ ⦃wq : World⦄, PS w wq base top A n b last M v → Q .normal { tmps := #[.int .i64 (n : Int), u1, u2, u3, x4, .pointer (some ⟨A, 0, none⟩), u6, .pointer (some ⟨b, 0, none⟩), u8, u9, u10, u11, u12, u13, u14, u15, u16, x17, x18, x19, x20, x21, x22, u23, u24, u25, u26, u27, u28, u29, u30, u31, u32, u33, u34, u35, u36, u37, u38, u39, u40, u41, u42, u43, u44, u45, u46, u47, u48, u49, u50, u51, u52, u53, u54, u55, u56, u57, u58, u59, u60, u61, u62, u63, u64, u65, u66, u67, u68, u69, u70, u71, u72, u73, u74, u75, u76, u77, u78, u79, u80, u81, u82, u83, u84, u85, u86, u87, u88, u89, u90, u91, u92, u93, u94, u95, u96, u97, u98, u99, u100, u101, u102, u103, u104, u105, u106, u107, u108, u109, u110, x111, x112, x113, x114, x115, x116, x117, x118, x119, x120, x121, x122, x123, x124, x125, x126, x127, x128, x129, x130, x131, x132, x133, x134, x135, x136, x137, x138, x139, x140, x141, x142, x143, x144, x145, x146, x147, x148, x149, x150, x151, x152, x153, x154, x155, x156, x157, x158, x159, x160, x161, x162, x163, x164, x165, x166, x167, x168, x169, x170, x171, x172, x173, x174, x175, x176, x177, x178, x179, x180, x181, x182, x183, x184, x185, x186, x187, x188, x189, x190, x191, x192, x193, x194, x195, x196, x197, x198, x199, x200, x201, x202, x203, x204, x205, x206, x207, u208], defers := [] } wq) :
    Code.wp Try.prog (codeOf [1, 1, 1, 1, 1, 0, 1, 1, 1, 1, 0, 1, 1, 1] (Try.f3.body.getD .skip)) Q { tmps := #[.int .i64 (n : Int), u1, u2, u3, u4, .pointer (some ⟨A, 0, none⟩), u6, .pointer (some ⟨b, 0, none⟩), u8, u9, u10, u11, u12, u13, u14, u15, u16, u17, u18, u19, u20, u21, u22, u23, u24, u25, u26, u27, u28, u29, u30, u31, u32, u33, u34, u35, u36, u37, u38, u39, u40, u41, u42, u43, u44, u45, u46, u47, u48, u49, u50, u51, u52, u53, u54, u55, u56, u57, u58, u59, u60, u61, u62, u63, u64, u65, u66, u67, u68, u69, u70, u71, u72, u73, u74, u75, u76, u77, u78, u79, u80, u81, u82, u83, u84, u85, u86, u87, u88, u89, u90, u91, u92, u93, u94, u95, u96, u97, u98, u99, u100, u101, u102, u103, u104, u105, u106, u107, u108, u109, u110, u111, u112, u113, u114, u115, u116, u117, u118, u119, u120, u121, u122, u123, u124, u125, u126, u127, u128, u129, u130, u131, u132, u133, u134, u135, u136, u137, u138, u139, u140, u141, u142, u143, u144, u145, u146, u147, u148, u149, u150, u151, u152, u153, u154, u155, u156, u157, u158, u159, u160, u161, u162, u163, u164, u165, u166, u167, u168, u169, u170, u171, u172, u173, u174, u175, u176, u177, u178, u179, u180, u181, u182, u183, u184, u185, u186, u187, u188, u189, u190, u191, u192, u193, u194, u195, u196, u197, u198, u199, u200, u201, u202, u203, u204, u205, u206, u207, u208], defers := [] } w3 := by
  have HQ := Lib.hid hQ
  have HP := Lib.hid hP
  clear hQ hP
  simp only [codeOf, Try.f3, Option.getD_some]
  obtain ⟨aV, cV, rfl⟩ := HP.out.row.form
  have hlm := HP.out.len
  have hop := ropen_any HP.out.row (by omega) (n : Int) last
  have hz := zc_rel HP.out.mi.cpu
  have hx := mx_rel HP.out.mi.cpu
  have hl := len_rel HP.out.mi.cpu
  obtain ⟨mM, hmM⟩ : ∃ l, l = M.length := ⟨_, rfl⟩
  have HMm := Lib.hid hmM
  obtain ⟨Z, hZ⟩ : ∃ z, z = zcM M := ⟨_, rfl⟩
  obtain ⟨X, hX⟩ : ∃ z, z = mxM M := ⟨_, rfl⟩
  rw [← hmM] at hlm HP HQ hop hl
  rw [← hZ] at hop hz
  rw [← hX] at hop hx
  have HOp := Lib.hid hop
  have HZc := Lib.hid hz
  have HMx := Lib.hid hx
  have HLn := Lib.hid hl
  have hb := HP.out.bx
  have b0 := hb.c0
  have b1 := hb.c1
  have b2 := hb.c2
  clear hop hz hx hl hmM hZ hX hb
  go_wp2_with fail
  with_reducible refine HOp.out.mono ?_
  rintro e w4 ⟨rfl, hc4⟩
  have HP4 := Lib.hid (HP.out.quiet hc4)
  clear hc4 b0 b1 b2 HOp
  go_frame
  go_wp2_with fail
  obtain ⟨G, f', hf1, hf2⟩ := worlds_of w4
  have hx2 : ∀ g : G, (f' g).cell? ⟨b, 2, none⟩ = some (.slice aV mM cV) := fun g => (HP4.out.quiet (hf1 g)).bx.c2
  have hne : Nonempty G := ⟨(hf2 w4 (Ch.refl _ _)).choose⟩
  have HX1 := Lib.hid hf1
  have HX2 := Lib.hid hf2
  have HG1 := Lib.hid (fun g : G => show Calls Try.prog 16 #[.pointer (some ⟨A, 0, none⟩)] (f' g) fun e w' => e = .returned (.int .i64 (Z : Int)) ∧ Below (f' g).heap.size (f' g) w' from by
    have h := (HP4.out.quiet (hf1 g)).lc.open'
    unfold zcI at h
    rw [HZc.out] at h
    exact h)
  have HG2 := Lib.hid (fun g : G => show Calls Try.prog 17 #[.pointer (some ⟨A, 0, none⟩)] (f' g) fun e w' => e = .returned (.int .i64 X) ∧ Below (f' g).heap.size (f' g) w' from by
    have h := (HP4.out.quiet (hf1 g)).lc.newest
    rw [HMx.out] at h
    exact h)
  have HG3 := Lib.hid (fun g : G => show Calls Try.prog 18 #[.pointer (some ⟨A, 0, none⟩)] (f' g) fun e w' => e = .returned (.int .i64 (mM : Int)) ∧ Below (f' g).heap.size (f' g) w' from by
    have h := (HP4.out.quiet (hf1 g)).lc.len'
    unfold lnI at h
    rw [HLn.out] at h
    exact h)
  have HG4 := Lib.hid (fun g : G => (HP4.out.quiet (hf1 g)).lc.of_out (i := (n : Int)) (.inr (Int.le_refl _)))
  have HG5 := Lib.hid (fun g : G => (HP4.out.quiet (hf1 g)).lc.of_out (i := -1) (.inl (by decide)))
  have n1 : ((Z : Int) != (Z : Int)) = false := by simp
  have n2 : (X != X) = false := by simp
  have n3 : ((mM : Int) != (mM : Int)) = false := by simp
  have HQq := Ch.refl [] w4
  clear hf1 hf2
  refine wp_region_worlds f' (by kernel_rfl) (by kernel_rfl) (HX2.out _ HQq.drew) ?_
  repeat (go_big_quiet_step (first
    | (with_reducible refine (HG1.out _).mono ?_; rintro r w' ⟨rfl, hcw⟩; exact ⟨rfl, HX2.out w' ((HX1.out _).trans (.of_below hcw))⟩)
    | (with_reducible refine (HG2.out _).mono ?_; rintro r w' ⟨rfl, hcw⟩; exact ⟨rfl, HX2.out w' ((HX1.out _).trans (.of_below hcw))⟩)
    | (with_reducible refine (HG3.out _).mono ?_; rintro r w' ⟨rfl, hcw⟩; exact ⟨rfl, HX2.out w' ((HX1.out _).trans (.of_below hcw))⟩)
    | (with_reducible refine (HG4.out _).mono ?_; rintro r w' ⟨rfl, rfl⟩; exact ⟨rfl, _, rfl⟩)
    | (with_reducible refine (HG5.out _).mono ?_; rintro r w' ⟨rfl, rfl⟩; exact ⟨rfl, _, rfl⟩)))
  refine wpQuiet_nil ?_
  rintro _ ⟨gz, rfl⟩
  have HP5 := Lib.hid (HP4.out.quiet (HX1.out gz))
  generalize f' gz = w5 at *
  clear hx2 hne HQq HG1 HG2 HG3 HG4 HG5 HX1 HX2 HP4 n1 n2 n3
  go_wp2_with fail
  go_loopw [19] (fun r wr => ∃ c : Nat, c ≤ n ∧ r = .int .i64 (c : Int) ∧ PS w wr base top A n b last M (.slice aV mM cV)) (fun r _ => n - (intOf r).toNat)
  case atStart => exact ⟨0, Nat.zero_le _, rfl, HP5.out⟩
  case round =>
    obtain ⟨c, hc, rfl, hp⟩ := hrel
    by_cases hcn : c < n
    · have hlt : (c : Int) < (n : Int) := by omega
      have HPc := Lib.hid hp
      have HCn := Lib.hid hcn
      clear hp hcn
      go_upto_block 4 with (fail)
      refine wp_block ?_
      refine plays_cpu HPc.out HCn.out ?_
      intro y4 y20 y21 y22 y152 y153 y154 y155 y156 y157 y158 y159 y160 y161 y162 y163 y164 y165 y166 y167 y168 y169 y170 y171 y172 y173 y174 y175 y176 y177 y178 y179 y180 y181 y182 y183 y184 y185 y186 y187 y188 y189 y190 y191 y192 y193 y194 y195 y196 y197 y198 y199 y200 y201 y202 y203 y204 y205 y206 y207 wq hpq
      have HPq := Lib.hid hpq
      clear hpq
      simp only [Exit.inBlock]
      go_wp2_with fail
      go_roundw
      case rel => exact ⟨c + 1, by omega, by go_num, HPq.out⟩
      case measure => simp [intOf]; omega
    · have hlt : ¬ (c : Int) < (n : Int) := by omega
      have HPc := Lib.hid hp
      clear hp
      go_wp2
      exact HQ.out HPc.out
end Go.Proofs.Ytnnliimjemmekaa

/-
  GracePlays: a part (tail).
-/
import Derived.Test.YtjoaigadlpndcaaGreatDoorGzI
import Derived.Test.YtjoaigadlpndcaaGreatDoorGzJ
import Derived.Deep.RegionHeld3
import Derived.Deep.CutBlock
namespace Go.Proofs.YtjoaigadlpndcaaGreatDoor
open Go.RowKit Go.Shelf Go.BigFrame
open rC (Th)

attribute [local go_sem] Oper.semAt_some

section
variable {w w3 : World} {base a L n b c k : Nat} {s : Sl3} {z : Az}
theorem QX.hold_ref (h : QX w w3 base a L n b c k s z) {v : Nat} (hv : holdZ z = v) : Calls Tryz.prog 25 #[gvz s n z] w3 fun e w' => e = .returned (.int .u64 (v : Int)) ∧ Ch [] w3 w' := by
  subst hv
  show Calls _ _ #[gv s.m (n : Int) z.last s.v z.rn z.t (z.P : Int) s.l z.gen z.ov z.wt] _ _
  unfold holdZ
  by_cases hr : z.rn = true
  · obtain ⟨g, cap, e1, e2⟩ := h.rz.rb hr
    rw [if_pos hr, e1, hr]
    exact gz_hold1 e2 rfl
  · have hr' : z.rn = false := by simpa using hr
    rw [if_neg hr, hr']
    exact gz_hold0 w3
theorem QX.bar_ref (h : QX w w3 base a L n b c k s z) {v : Int} (hv : barV n (dgz c z) = v) : Calls Tryz.prog 28 #[gvz s n z] w3 fun e w' => e = .returned (.int .i64 v) ∧ Ch [] w3 w' := by
  have hg := h.gen
  have hk := h.hk
  have hm := h.iz.ml
  exact gz_barrier h.rz.rc (by omega) (by omega) ((dgz_bar h.iz).symm.trans hv)
theorem QX.in_ref (h : QX w w3 base a L n b c k s z) {v : Nat} (hv : mskN (inP (runS z.ds)) = v) : Calls Tryz.prog 20 #[s.m, .int .i64 (-1)] w3 fun e w' => e = .returned (.int .u64 (v : Int)) ∧ Ch [] w3 w' := by
  have hk := h.hk
  have hm := h.iz.dl
  have hc := rin_any h.rz.rd (by omega) (-1)
  rw [refP_in (show GS (runS z.ds) from h.dl.gs), hv] at hc
  exact hc
theorem QX.depth_ref (h : QX w w3 base a L n b c k s z) (r : Int) {v : Int} (hv : dOf (runS z.ds) r = v) : Calls Tryz.prog 18 #[s.m, .int .i64 r] w3 fun e w' => e = .returned (.int .i64 v) ∧ w3 = w' := by
  have hk := h.hk
  have hm := h.iz.dl
  have hc := rdepth_any h.rz.rd (by omega) r
  rwa [hv] at hc
theorem QX.in_any (h : QX w w3 base a L n b c k s z) {v : Nat} (hv : mskN (inP (runS z.ds)) = v) : Calls Tryz.prog 19 #[.pointer (some ⟨a, 0, none⟩)] w3 fun e w' => e = .returned (.int .u64 (v : Int)) ∧ Ch [] w3 w' :=
  (h.dl.in hv).mono fun _ _ h => ⟨h.1, h.2.2⟩
theorem QX.wait_any (h : QX w w3 base a L n b c k s z) {v : Int} (hv : lnI (catL (dgz c z).f n) = v) : Calls Tryz.prog 26 #[.pointer (some ⟨a, 0, none⟩)] w3 fun e w' => e = .returned (.int .i64 v) ∧ Ch [] w3 w' :=
  (h.dl.waiting hv).mono fun _ _ h => ⟨h.1, h.2.2⟩
theorem QX.bar_any (h : QX w w3 base a L n b c k s z) {v : Int} (hv : barV n (dgz c z) = v) : Calls Tryz.prog 27 #[.pointer (some ⟨a, 0, none⟩)] w3 fun e w' => e = .returned (.int .i64 v) ∧ Ch [] w3 w' := by
  have hg := h.gen
  exact (h.dl.barrier (show -1000000 ≤ z.gen ∧ z.gen ≤ 1000000 by omega) hv).mono fun _ _ h => ⟨h.1, h.2.2⟩
theorem QX.done_any (h : QX w w3 base a L n b c k s z) : Calls Tryz.prog 22 #[.pointer (some ⟨a, 0, none⟩)] w3 fun e w' => e = .returned (.int .i64 z.ov) ∧ w3 = w' := by
  have hg := h.gen
  exact h.dl.done (show -1000000 ≤ z.gen ∧ z.gen ≤ 1000000 by omega) (dgz_done h.iz)
theorem QX.over_any (h : QX w w3 base a L n b c k s z) (tk : Int) : Calls Tryz.prog 29 #[.pointer (some ⟨a, 0, none⟩), .int .i64 tk] w3 fun e w' => e = .returned (.bool (decide (tk ≤ z.ov))) ∧ w3 = w' := by
  have hg := h.gen
  exact h.dl.over (show -1000000 ≤ z.gen ∧ z.gen ≤ 1000000 by omega) tk (by rw [dgz_done h.iz])
theorem QX.len2 (h : QX w w3 base a L n b c k s z) : s.n2 = z.M.length := by
  obtain ⟨x, y, e⟩ := h.rz.rc.form
  exact (Value.slice.inj e).2.1
end
set_option maxRecDepth 100000 in
set_option maxHeartbeats 4000000 in
theorem plays_tail {w w3 : World} {base a L n b c k q : Nat} {s : Sl3} {z : Az} {K R C Id : Int} {tk : Int} (hP : QR w w3 base a L n b c k s z q K R C Id)
    {u0 u1 u3 u4 u5 u6 u8 u10 u12 u13 u14 u15 u16 u17 u18 u19 u20 u21 u22 u23 u24 u25 u26 u27 u28 u29 u30 u31 u32 u33 u34 u35 u36 u37 u38 u39 u40 u41 u42 u43 u44 u45 u46 u47 u48 u49 u50 u51 u52 u53 u54 u55 u56 u57 u58 u59 u60 u61 u62 u63 u64 u65 u66 u67 u68 u69 u70 u71 u72 u73 u74 u75 u76 u77 u78 u79 u80 u81 u82 u83 u84 u85 u86 u87 u88 u89 u90 u91 u92 u93 u94 u95 u96 u97 u98 u99 u100 u101 u102 u103 u104 u105 u106 u107 u108 u109 u110 u111 u112 u113 u114 u115 u116 u117 u118 u119 u120 u121 u122 u123 u124 u125 u126 u127 u128 u129 u130 u131 u132 u133 u134 u135 u136 u137 u138 u139 u140 u141 u142 u143 u144 u145 u146 u147 u148 u149 u150 u151 u152 u153 u154 u155 u156 u157 u158 u159 u160 u161 u162 u163 u164 u165 u166 u167 u168 u169 u170 u171 u172 u173 u174 u175 u176 u177 u178 u179 u180 u181 u182 u183 u184 u185 u186 u187 u188 u189 u190 u191 u192 u193 u194 u195 u196 u197 u198 u199 u200 u201 u202 u203 u204 u205 u206 u207 u208 u209 u210 u211 u212 u213 u214 u215 u216 u217 u218 u219 : Value} {Q : Exit → Act → World → Prop}
    (hQ : ∀ ⦃x6 x149 x150 x151 x152 x153 x154 x155 x156 x157 x158 x159 x160 x161 x162 x163 x164 x165 x166 x167 x168 x169 x170 x171 x172 x173 x174 x175 x176 x177 x178 x179 x180 x181 x182 x183 x184 x185 x186 x187 x188 x189 x190 x191 x192 x193 x194 x195 x196 x197 x198 x199 x200 x201 x202 x203 x204 x205 x206 x207 x208 x209 x210 x211 x212 x213 x214 x215 x216 x217 x218 : Value⦄ ⦃wq : World⦄, QR w wq base a L n b c k s z q K R C Id → Q .normal { tmps := #[u0, u1, .int .i64 tk, u3, u4, u5, x6, .pointer (some ⟨a, 0, none⟩), u8, .pointer (some ⟨b, 0, none⟩), u10, .pointer (some ⟨q, 0, none⟩), u12, u13, u14, u15, u16, u17, u18, u19, u20, u21, u22, u23, u24, u25, u26, u27, u28, u29, u30, u31, u32, u33, u34, u35, u36, u37, u38, u39, u40, u41, u42, u43, u44, u45, u46, u47, u48, u49, u50, u51, u52, u53, u54, u55, u56, u57, u58, u59, u60, u61, u62, u63, u64, u65, u66, u67, u68, u69, u70, u71, u72, u73, u74, u75, u76, u77, u78, u79, u80, u81, u82, u83, u84, u85, u86, u87, u88, u89, u90, u91, u92, u93, u94, u95, u96, u97, u98, u99, u100, u101, u102, u103, u104, u105, u106, u107, u108, u109, u110, u111, u112, u113, u114, u115, u116, u117, u118, u119, u120, u121, u122, u123, u124, u125, u126, u127, u128, u129, u130, u131, u132, u133, u134, u135, u136, u137, u138, u139, u140, u141, u142, u143, u144, u145, u146, u147, u148, x149, x150, x151, x152, x153, x154, x155, x156, x157, x158, x159, x160, x161, x162, x163, x164, x165, x166, x167, x168, x169, x170, x171, x172, x173, x174, x175, x176, x177, x178, x179, x180, x181, x182, x183, x184, x185, x186, x187, x188, x189, x190, x191, x192, x193, x194, x195, x196, x197, x198, x199, x200, x201, x202, x203, x204, x205, x206, x207, x208, x209, x210, x211, x212, x213, x214, x215, x216, x217, x218, u219], defers := [] } wq) :
    Code.wp Tryz.prog (codeOf [1, 1, 1, 1, 1, 0, 1, 1, 1, 1, 0, 1, 1, 1] (Tryz.f3.body.getD .skip)) Q { tmps := #[u0, u1, .int .i64 tk, u3, u4, u5, u6, .pointer (some ⟨a, 0, none⟩), u8, .pointer (some ⟨b, 0, none⟩), u10, .pointer (some ⟨q, 0, none⟩), u12, u13, u14, u15, u16, u17, u18, u19, u20, u21, u22, u23, u24, u25, u26, u27, u28, u29, u30, u31, u32, u33, u34, u35, u36, u37, u38, u39, u40, u41, u42, u43, u44, u45, u46, u47, u48, u49, u50, u51, u52, u53, u54, u55, u56, u57, u58, u59, u60, u61, u62, u63, u64, u65, u66, u67, u68, u69, u70, u71, u72, u73, u74, u75, u76, u77, u78, u79, u80, u81, u82, u83, u84, u85, u86, u87, u88, u89, u90, u91, u92, u93, u94, u95, u96, u97, u98, u99, u100, u101, u102, u103, u104, u105, u106, u107, u108, u109, u110, u111, u112, u113, u114, u115, u116, u117, u118, u119, u120, u121, u122, u123, u124, u125, u126, u127, u128, u129, u130, u131, u132, u133, u134, u135, u136, u137, u138, u139, u140, u141, u142, u143, u144, u145, u146, u147, u148, u149, u150, u151, u152, u153, u154, u155, u156, u157, u158, u159, u160, u161, u162, u163, u164, u165, u166, u167, u168, u169, u170, u171, u172, u173, u174, u175, u176, u177, u178, u179, u180, u181, u182, u183, u184, u185, u186, u187, u188, u189, u190, u191, u192, u193, u194, u195, u196, u197, u198, u199, u200, u201, u202, u203, u204, u205, u206, u207, u208, u209, u210, u211, u212, u213, u214, u215, u216, u217, u218, u219], defers := [] } w3 := by
  have HQ := Lib.hid hQ
  have HP := Lib.hid hP
  clear hQ hP
  simp only [codeOf, Tryz.f3, Option.getD_some]
  obtain ⟨a1, n1, c1, a2, n2, c2, a3, n3, c3⟩ := s
  obtain ⟨ds, M, last, rn, t, P, p, gen, ov, wt⟩ := z
  obtain ⟨dv, hdv⟩ : ∃ v, dOf (runS ds) R = v := ⟨_, rfl⟩
  obtain ⟨mv, hmv⟩ : ∃ v, mskN (inP (runS ds)) = v := ⟨_, rfl⟩
  obtain ⟨hv, hhv⟩ : ∃ v, holdZ ⟨ds, M, last, rn, t, P, p, gen, ov, wt⟩ = v := ⟨_, rfl⟩
  obtain ⟨bv, hbv⟩ : ∃ v, barV n (dgz c ⟨ds, M, last, rn, t, P, p, gen, ov, wt⟩) = v := ⟨_, rfl⟩
  have hn2 : n2 = M.length := HP.out.1.len2
  obtain rfl : M.length = n2 := hn2.symm
  have hwv : lnI (catL (dgz c ⟨ds, M, last, rn, t, P, p, gen, ov, wt⟩).f n) = (M.length : Int) := dgz_wait HP.out.1.iz
  obtain ⟨mM, hmM⟩ : ∃ v, v = M.length := ⟨_, rfl⟩
  rw [← hmM] at hwv HP HQ
  have HDv := Lib.hid hdv
  have HMv := Lib.hid hmv
  have HHv := Lib.hid hhv
  have HBv := Lib.hid hbv
  have HWv := Lib.hid hwv
  clear hdv hmv hhv hbv hwv hmM hn2
  go_wp2_with fail
  obtain ⟨G, f', hf1, hf2⟩ := worlds_of w3
  have q1 : ∀ g : G, (f' g).cell? ⟨q, 1, none⟩ = some (.int .i64 R) := fun g => (HP.out.quiet (hf1 g)).2.1.c1
  have y0 : ∀ g : G, (f' g).cell? ⟨b, 0, none⟩ = some (.slice a1 n1 c1) := fun g => (HP.out.quiet (hf1 g)).1.bz.c0
  have y4 : ∀ g : G, (f' g).cell? ⟨b, 4, none⟩ = some (.bool rn) := fun g => (HP.out.quiet (hf1 g)).1.bz.c4
  have y8 : ∀ g : G, (f' g).cell? ⟨b, 8, none⟩ = some (.int .i64 gen) := fun g => (HP.out.quiet (hf1 g)).1.bz.c8
  have y9 : ∀ g : G, (f' g).cell? ⟨b, 9, none⟩ = some (.int .i64 ov) := fun g => (HP.out.quiet (hf1 g)).1.bz.c9
  have hne : Nonempty G := ⟨(hf2 w3 (Ch.refl _ _)).choose⟩
  have HX1 := Lib.hid hf1
  have HX2 := Lib.hid hf2
  have HG1 := Lib.hid (fun g : G => show Calls Tryz.prog 17 #[.pointer (some ⟨a, 0, none⟩), .int .i64 R] (f' g) fun e w' => e = .returned (.int .i64 dv) ∧ f' g = w' from (HP.out.quiet (hf1 g)).1.dl.depth R HDv.out)
  have HG2 := Lib.hid (fun g : G => show Calls Tryz.prog 18 #[.slice a1 n1 c1, .int .i64 R] (f' g) fun e w' => e = .returned (.int .i64 dv) ∧ f' g = w' from (HP.out.quiet (hf1 g)).1.depth_ref R HDv.out)
  have HG3 := Lib.hid (fun g : G => show Calls Tryz.prog 19 #[.pointer (some ⟨a, 0, none⟩)] (f' g) fun e w' => e = .returned (.int .u64 (mv : Int)) ∧ Ch [] (f' g) w' from (HP.out.quiet (hf1 g)).1.in_any HMv.out)
  have HG4 := Lib.hid (fun g : G => show Calls Tryz.prog 20 #[.slice a1 n1 c1, .int .i64 (-1)] (f' g) fun e w' => e = .returned (.int .u64 (mv : Int)) ∧ Ch [] (f' g) w' from (HP.out.quiet (hf1 g)).1.in_ref HMv.out)
  have HG5 := Lib.hid (fun g : G => show Calls Tryz.prog 21 #[.pointer (some ⟨a, 0, none⟩)] (f' g) fun e w' => e = .returned (.int .i64 gen) ∧ f' g = w' from (HP.out.quiet (hf1 g)).1.dl.gen_any rfl)
  have HG6 := Lib.hid (fun g : G => show Calls Tryz.prog 22 #[.pointer (some ⟨a, 0, none⟩)] (f' g) fun e w' => e = .returned (.int .i64 ov) ∧ f' g = w' from (HP.out.quiet (hf1 g)).1.done_any)
  have HG7 := Lib.hid (fun g : G => show Calls Tryz.prog 23 #[.pointer (some ⟨a, 0, none⟩)] (f' g) fun e w' => e = .returned (.bool rn) ∧ f' g = w' from (HP.out.quiet (hf1 g)).1.dl.running dgz_run)
  have ne1 : (dv != dv) = false := by simp
  have ne2 : ((mv : Int) != (mv : Int)) = false := by simp
  have ne3 : (gen != gen) = false := by simp
  have ne4 : (ov != ov) = false := by simp
  have ne5 : (rn != rn) = false := by simp
  have HQq := Ch.refl [] w3
  clear hf1 hf2
  refine wp_region_worlds f' (by kernel_rfl) (by kernel_rfl) (HX2.out _ HQq.drew) ?_
  repeat (go_big_quiet_step (first
    | (with_reducible refine (HG1.out _).mono ?_; rintro r w' ⟨rfl, rfl⟩; exact ⟨rfl, _, rfl⟩)
    | (with_reducible refine (HG2.out _).mono ?_; rintro r w' ⟨rfl, rfl⟩; exact ⟨rfl, _, rfl⟩)
    | (with_reducible refine (HG3.out _).mono ?_; rintro r w' ⟨rfl, hcw⟩; exact ⟨rfl, HX2.out w' ((HX1.out _).trans hcw)⟩)
    | (with_reducible refine (HG4.out _).mono ?_; rintro r w' ⟨rfl, hcw⟩; exact ⟨rfl, HX2.out w' ((HX1.out _).trans hcw)⟩)
    | (with_reducible refine (HG5.out _).mono ?_; rintro r w' ⟨rfl, rfl⟩; exact ⟨rfl, _, rfl⟩)
    | (with_reducible refine (HG6.out _).mono ?_; rintro r w' ⟨rfl, rfl⟩; exact ⟨rfl, _, rfl⟩)
    | (with_reducible refine (HG7.out _).mono ?_; rintro r w' ⟨rfl, rfl⟩; exact ⟨rfl, _, rfl⟩)))
  refine wpQuiet_nil ?_
  rintro _ ⟨gz, rfl⟩
  have HP5 := Lib.hid (HP.out.quiet (HX1.out gz))
  generalize f' gz = w5 at *
  clear q1 y0 y4 y8 y9 hne HQq HG1 HG2 HG3 HG4 HG5 HG6 HG7 HX1 HX2 HP ne1 ne2 ne3 ne4 ne5
  go_wp2_with fail
  obtain ⟨G, f', hf1, hf2⟩ := worlds_of w5
  have y0 : ∀ g : G, (f' g).cell? ⟨b, 0, none⟩ = some (.slice a1 n1 c1) := fun g => (HP5.out.quiet (hf1 g)).1.bz.c0
  have y1 : ∀ g : G, (f' g).cell? ⟨b, 1, none⟩ = some (.int .i64 (n : Int)) := fun g => (HP5.out.quiet (hf1 g)).1.bz.c1
  have y2 : ∀ g : G, (f' g).cell? ⟨b, 2, none⟩ = some (.int .i64 last) := fun g => (HP5.out.quiet (hf1 g)).1.bz.c2
  have y3 : ∀ g : G, (f' g).cell? ⟨b, 3, none⟩ = some (.slice a2 mM c2) := fun g => (HP5.out.quiet (hf1 g)).1.bz.c3
  have y4 : ∀ g : G, (f' g).cell? ⟨b, 4, none⟩ = some (.bool rn) := fun g => (HP5.out.quiet (hf1 g)).1.bz.c4
  have y5 : ∀ g : G, (f' g).cell? ⟨b, 5, none⟩ = some (.int .i64 t) := fun g => (HP5.out.quiet (hf1 g)).1.bz.c5
  have y6 : ∀ g : G, (f' g).cell? ⟨b, 6, none⟩ = some (.int .i64 (P : Int)) := fun g => (HP5.out.quiet (hf1 g)).1.bz.c6
  have y7 : ∀ g : G, (f' g).cell? ⟨b, 7, none⟩ = some (.slice a3 n3 c3) := fun g => (HP5.out.quiet (hf1 g)).1.bz.c7
  have y8 : ∀ g : G, (f' g).cell? ⟨b, 8, none⟩ = some (.int .i64 gen) := fun g => (HP5.out.quiet (hf1 g)).1.bz.c8
  have y9 : ∀ g : G, (f' g).cell? ⟨b, 9, none⟩ = some (.int .i64 ov) := fun g => (HP5.out.quiet (hf1 g)).1.bz.c9
  have y10 : ∀ g : G, (f' g).cell? ⟨b, 10, none⟩ = some (.int .i64 wt) := fun g => (HP5.out.quiet (hf1 g)).1.bz.c10
  have hne : Nonempty G := ⟨(hf2 w5 (Ch.refl _ _)).choose⟩
  have HX1 := Lib.hid hf1
  have HX2 := Lib.hid hf2
  have HG1 := Lib.hid (fun g : G => show Calls Tryz.prog 24 #[.pointer (some ⟨a, 0, none⟩)] (f' g) fun e w' => e = .returned (.int .u64 (hv : Int)) ∧ f' g = w' from (HP5.out.quiet (hf1 g)).1.dl.holdouts (dgz_hold.trans HHv.out))
  have HG2 := Lib.hid (fun g : G => show Calls Tryz.prog 25 #[gv (.slice a1 n1 c1) (n : Int) last (.slice a2 mM c2) rn t (P : Int) (.slice a3 n3 c3) gen ov wt] (f' g) fun e w' => e = .returned (.int .u64 (hv : Int)) ∧ Ch [] (f' g) w' from (HP5.out.quiet (hf1 g)).1.hold_ref HHv.out)
  have HG3 := Lib.hid (fun g : G => show Calls Tryz.prog 26 #[.pointer (some ⟨a, 0, none⟩)] (f' g) fun e w' => e = .returned (.int .i64 (mM : Int)) ∧ Ch [] (f' g) w' from (HP5.out.quiet (hf1 g)).1.wait_any HWv.out)
  have HG4 := Lib.hid (fun g : G => show Calls Tryz.prog 27 #[.pointer (some ⟨a, 0, none⟩)] (f' g) fun e w' => e = .returned (.int .i64 bv) ∧ Ch [] (f' g) w' from (HP5.out.quiet (hf1 g)).1.bar_any HBv.out)
  have HG5 := Lib.hid (fun g : G => show Calls Tryz.prog 28 #[gv (.slice a1 n1 c1) (n : Int) last (.slice a2 mM c2) rn t (P : Int) (.slice a3 n3 c3) gen ov wt] (f' g) fun e w' => e = .returned (.int .i64 bv) ∧ Ch [] (f' g) w' from (HP5.out.quiet (hf1 g)).1.bar_ref HBv.out)
  have HG6 := Lib.hid (fun g : G => show Calls Tryz.prog 29 #[.pointer (some ⟨a, 0, none⟩), .int .i64 tk] (f' g) fun e w' => e = .returned (.bool (decide (tk ≤ ov))) ∧ f' g = w' from (HP5.out.quiet (hf1 g)).1.over_any tk)
  have ne1 : ((hv : Int) != (hv : Int)) = false := by simp
  have ne2 : ((mM : Int) != (mM : Int)) = false := by simp
  have ne3 : (bv != bv) = false := by simp
  have ne4 : (decide (tk ≤ ov) != decide (tk ≤ ov)) = false := by simp
  have HQq := Ch.refl [] w5
  clear hf1 hf2
  refine wp_region_worlds f' (by kernel_rfl) (by kernel_rfl) (HX2.out _ HQq.drew) ?_
  repeat (go_big_quiet_step (first
    | (with_reducible refine (HG1.out _).mono ?_; rintro r w' ⟨rfl, rfl⟩; exact ⟨rfl, _, rfl⟩)
    | (with_reducible refine (HG2.out _).mono ?_; rintro r w' ⟨rfl, hcw⟩; exact ⟨rfl, HX2.out w' ((HX1.out _).trans hcw)⟩)
    | (with_reducible refine (HG3.out _).mono ?_; rintro r w' ⟨rfl, hcw⟩; exact ⟨rfl, HX2.out w' ((HX1.out _).trans hcw)⟩)
    | (with_reducible refine (HG4.out _).mono ?_; rintro r w' ⟨rfl, hcw⟩; exact ⟨rfl, HX2.out w' ((HX1.out _).trans hcw)⟩)
    | (with_reducible refine (HG5.out _).mono ?_; rintro r w' ⟨rfl, hcw⟩; exact ⟨rfl, HX2.out w' ((HX1.out _).trans hcw)⟩)
    | (with_reducible refine (HG6.out _).mono ?_; rintro r w' ⟨rfl, rfl⟩; exact ⟨rfl, _, rfl⟩)))
  refine wpQuiet_nil ?_
  rintro _ ⟨gz, rfl⟩
  have HP6 := Lib.hid (HP5.out.quiet (HX1.out gz))
  generalize f' gz = w6 at *
  clear y0 y1 y2 y3 y4 y5 y6 y7 y8 y9 y10 hne HQq HG1 HG2 HG3 HG4 HG5 HG6 HX1 HX2 HP5 ne1 ne2 ne3 ne4
  go_wp2_with fail
  exact HQ.out HP6.out
end Go.Proofs.YtjoaigadlpndcaaGreatDoor

/-
  A domain: how a grace period begins; Poll.
-/
import Derived.Test.YtjoaigadlpndcaaGreatDoorGrB
namespace Go.Proofs.YtjoaigadlpndcaaGreatDoor
open Go.RowKit Go.Shelf
open rC (Th)

section
variable {w0 w w' : World} {base top b A a L n : Nat} {d : Dm}
theorem zc_nonneg (n : Nat) (d : Dm) : 0 ≤ zcI (catL d.f n) := by unfold zcI; omega
open Go.BigFrame in
set_option maxRecDepth 100000 in
set_option maxHeartbeats 2000000 in
theorem begin_no (h : GB w0 w base top b A a L n d) (hq : asks n d = false) : Calls Tryz.prog 62 #[.pointer (some ⟨a, 0, none⟩)] w fun e w' => e = .returned (.slice none 0 0) ∧ Ch [] w w' := by
  obtain ⟨z, hz⟩ : ∃ z, zcI (catL d.f n) = z := ⟨_, rfl⟩
  have hz0 := zc_nonneg n d
  unfold asks at hq
  rw [hz] at hq hz0
  have H := Lib.hid h
  obtain ⟨G, f', hf1, hf2⟩ := worlds_of w
  have hne : Nonempty G := ⟨(hf2 w (Ch.refl _ _)).choose⟩
  have c1 : ∀ g : G, (f' g).cell? ⟨a, 1, none⟩ = some (.pointer (some ⟨A, 0, none⟩)) := fun g => (h.quiet (hf1 g)).c1
  have c3 : ∀ g : G, (f' g).cell? ⟨a, 3, none⟩ = some (.int .i64 d.gen) := fun g => (h.quiet (hf1 g)).c3
  have c4 : ∀ g : G, (f' g).cell? ⟨a, 4, none⟩ = some (.int .i64 d.wnt) := fun g => (h.quiet (hf1 g)).c4
  have HX1 := Lib.hid hf1
  have HX2 := Lib.hid hf2
  have HQq := Lib.hid (Ch.refl [] w)
  have HO := Lib.hid (fun g : G => show Calls Tryz.prog 52 #[.pointer (some ⟨A, 0, none⟩)] (f' g) fun e w' => e = .returned (.int .i64 z) ∧ Below (f' g).heap.size (f' g) w' from by
    have h2 := (h.quiet (hf1 g)).l.open'
    rwa [hz] at h2)
  cases hs : d.sc.isSome with
  | true =>
    have HR := Lib.hid (fun g : G => (h.quiet (hf1 g)).running hs)
    clear h hf1 hf2 hq hs hz
    go_enter Tryz.func62, Tryz.ntmps62
    go_wp2_with fail
    refine wp_region_worlds f' (by kernel_rfl) (by kernel_rfl) (HX2.out _ HQq.out.drew) ?_
    repeat (go_big_quiet_step (first
      | (with_reducible refine (HR.out _).mono ?_; rintro r w' ⟨rfl, rfl⟩; exact ⟨rfl, _, rfl⟩)
      | (with_reducible refine (HO.out _).mono ?_; rintro r w' ⟨rfl, hcw⟩; exact ⟨rfl, HX2.out w' ((HX1.out _).trans (.of_below hcw))⟩)))
    refine wpQuiet_nil ?_
    rintro _ ⟨gz, rfl⟩
    go_wp2_with fail
    go_ret
    exact ⟨rfl, HX1.out gz⟩
  | false =>
    rw [hs] at hq
    have hzw : z ≤ 0 ∧ d.wnt ≤ d.gen := by simpa using hq
    have hz1 : z = 0 := by omega
    have hle := hzw.2
    clear hzw
    subst hz1
    have HR := Lib.hid (fun g : G => (h.quiet (hf1 g)).running hs)
    clear h hf1 hf2 hq hs hz hz0
    generalize d.gen = gn at *
    generalize d.wnt = wt at *
    go_enter Tryz.func62, Tryz.ntmps62
    go_wp2_with fail
    refine wp_region_worlds f' (by kernel_rfl) (by kernel_rfl) (HX2.out _ HQq.out.drew) ?_
    repeat (go_big_quiet_step (first
      | (with_reducible refine (HR.out _).mono ?_; rintro r w' ⟨rfl, rfl⟩; exact ⟨rfl, _, rfl⟩)
      | (with_reducible refine (HO.out _).mono ?_; rintro r w' ⟨rfl, hcw⟩; exact ⟨rfl, HX2.out w' ((HX1.out _).trans (.of_below hcw))⟩)))
    refine wpQuiet_nil ?_
    rintro _ ⟨gz, rfl⟩
    go_wp2_with fail
    go_ret
    exact ⟨rfl, HX1.out gz⟩

theorem GB.put3 (h : GB w0 w base top b A a L n d) (g : Int) : (w.setCell ⟨a, 3, none⟩ (.int .i64 g)).cell? ⟨a, 0, none⟩ = some (.pointer (some ⟨b, 0, none⟩)) ∧ (w.setCell ⟨a, 3, none⟩ (.int .i64 g)).cell? ⟨a, 1, none⟩ = some (.pointer (some ⟨A, 0, none⟩)) ∧
    (w.setCell ⟨a, 3, none⟩ (.int .i64 g)).cell? ⟨a, 2, none⟩ = some (scV d.sc) ∧ (w.setCell ⟨a, 3, none⟩ (.int .i64 g)).cell? ⟨a, 3, none⟩ = some (.int .i64 g) ∧ (w.setCell ⟨a, 3, none⟩ (.int .i64 g)).cell? ⟨a, 4, none⟩ = some (.int .i64 d.wnt) :=
  ⟨setCell_other h.c0 (addr_ne_off (by decide)), setCell_other h.c1 (addr_ne_off (by decide)), setCell_other h.c2 (addr_ne_off (by decide)), setCell_same h.c3, setCell_other h.c4 (addr_ne_off (by decide))⟩
/-- A domain whose lists are one generation behind: between the two stores of a beginning. -/
structure GM (w0 w w' : World) (base top b A a L n : Nat) (d : Dm) (g : Int) (v2 : Value) : Prop where
  c0 : w'.cell? ⟨a, 0, none⟩ = some (.pointer (some ⟨b, 0, none⟩))
  c1 : w'.cell? ⟨a, 1, none⟩ = some (.pointer (some ⟨A, 0, none⟩))
  c2 : w'.cell? ⟨a, 2, none⟩ = some v2
  c3 : w'.cell? ⟨a, 3, none⟩ = some (.int .i64 g)
  c4 : w'.cell? ⟨a, 4, none⟩ = some (.int .i64 d.wnt)
  fr : ∀ k, w'.frozen? ⟨a, k, none⟩ = false
  s : SL w0 w' b d.x
  l : LC w' base top A n d.gen d.f
  ch : ChP (fun k => k = a) w w'
theorem GM.set2 {g : Int} {u v : Value} (h : GM w0 w w' base top b A a L n d g u) (hg : GB w0 w base top b A a L n d) : GM w0 w (w'.setCell ⟨a, 2, none⟩ v) base top b A a L n d g v := by
  have hP : ChP (fun k => k = a) w' (w'.setCell ⟨a, 2, none⟩ v) := (ChP.refl (fun k => k = a) w').setCell (p := ⟨a, 2, none⟩) (.inl rfl) _
  exact ⟨setCell_other h.c0 (addr_ne_off (by decide)), setCell_other h.c1 (addr_ne_off (by decide)), setCell_same h.c2, setCell_other h.c3 (addr_ne_off (by decide)), setCell_other h.c4 (addr_ne_off (by decide)), fun k => by simpa using h.fr k,
    h.s.turnP hP (by have := hg.ba; omega) (fun k e => by rw [e]; exact hg.o_lo hg.oa), h.l.chP hP (fun k e o => by have := o.2; have := hg.tb; have := hg.ba; omega), h.ch.trans hP⟩
theorem GM.quiet {g : Int} {u : Value} {w2 : World} (h : GM w0 w w' base top b A a L n d g u) (hc : Ch [] w' w2) : GM w0 w w2 base top b A a L n d g u := by
  have l : a < w'.heap.size := cell_lt h.c0
  exact ⟨(hc.cell (p := ⟨a, 0, none⟩) l (by simp)).trans h.c0, (hc.cell (p := ⟨a, 1, none⟩) l (by simp)).trans h.c1, (hc.cell (p := ⟨a, 2, none⟩) l (by simp)).trans h.c2, (hc.cell (p := ⟨a, 3, none⟩) l (by simp)).trans h.c3, (hc.cell (p := ⟨a, 4, none⟩) l (by simp)).trans h.c4,
    fun k => (hc.frozen (p := ⟨a, k, none⟩) l (by simp)).trans (h.fr k), h.s.quiet hc, h.l.quiet hc, h.ch.trans (.quiet hc)⟩
theorem GB.mid (h : GB w0 w base top b A a L n d) (g : Int) {w1 : World} (hc : Ch [] w w1) : GM w0 w (w1.setCell ⟨a, 3, none⟩ (.int .i64 g)) base top b A a L n d g (scV d.sc) := by
  have h1 := h.quiet hc
  obtain ⟨c0, c1, c2, c3, c4⟩ := h1.put3 g
  have hP : ChP (fun k => k = a) w1 (w1.setCell ⟨a, 3, none⟩ (.int .i64 g)) := (ChP.refl (fun k => k = a) w1).setCell (p := ⟨a, 3, none⟩) (.inl rfl) _
  exact ⟨c0, c1, c2, c3, c4, fun k => by simpa using h1.fr k, h1.s.turnP hP (by have := h1.ba; omega) (fun k e => by rw [e]; exact h1.o_lo h1.oa), h1.l.chP hP (fun k e o => by have := o.2; have := h1.tb; have := h1.ba; omega), (ChP.quiet hc).trans hP⟩
/-- The end of a beginning. -/
theorem GM.fin {g : Int} {f' : Nat → List Th} {w2 : World} {s : Sc} (h : GM w0 w w' base top b A a L n d g (scV (some s))) (hg : GB w0 w base top b A a L n d) (hs : Sn w' s.c (.pointer (some ⟨b, 0, none⟩)) s.t s.p s.P) (hL : L ≤ s.c) (hP : s.P < 64)
    (hl : LC w2 base top A n g f') (hc : ChP (Own base top) w' w2) : GB w0 w2 base top b A a L n { d with gen := g, sc := some s, f := f' } := by
  have htb := hg.tb
  have hba := hg.ba
  have hal := hg.al
  have ha : w2.heap[a]? = w'.heap[a]? := hc.block a (cell_lt h.c0) (fun o => by have := o.2; omega)
  have e : ∀ o, w2.cell? ⟨a, o, none⟩ = w'.cell? ⟨a, o, none⟩ := fun o => World.cell?_of_block (a := ⟨a, o, none⟩) ha
  exact ⟨(e _).trans h.c0, (e _).trans h.c1, (e _).trans h.c2, (e _).trans h.c3, (e _).trans h.c4, fun k => (World.frozen?_of_block (a := ⟨a, k, none⟩) ha).trans (h.fr k),
    h.s.turnP hc (fun o => by have := o.2; omega) (fun k o => by have := o.1; have := hg.lo; omega), hl, hg.lo, hg.tb, hg.ba, hg.al,
    fun s' e' => by simp only [Option.some.injEq] at e'; subst e'; exact ⟨hs.chP hc (fun o => by have := o.2; omega), hL, hP⟩, hg.tab⟩

open Go.BigFrame in
set_option maxRecDepth 100000 in
set_option maxHeartbeats 4000000 in
theorem begin_yes (h : GB w0 w base top b A a L n d) (hLw : L ≤ w.heap.size) (hgen : 0 ≤ d.gen ∧ d.gen ≤ 1000000) (hq : asks n d = true) : Calls Tryz.prog 62 #[.pointer (some ⟨a, 0, none⟩)] w (BegR w0 w base top b A a L n d) := by
  obtain ⟨z, hz⟩ : ∃ z, zcI (catL d.f n) = z := ⟨_, rfl⟩
  have hz0 := zc_nonneg n d
  have hbd : ∀ c, begD c n d = { d with gen := d.gen + 1, sc := some ⟨c, d.x.n, inP d.x, 0⟩, f := fun i => (d.f i).map (giveT (d.gen + 1)) } := fun c => by unfold begD; rw [if_pos hq]
  have HBd := Lib.hid hbd
  unfold asks at hq
  rw [hz] at hq hz0
  have H := Lib.hid h
  obtain ⟨G, f', hf1, hf2⟩ := worlds_of w
  have hne : Nonempty G := ⟨(hf2 w (Ch.refl _ _)).choose⟩
  have c1 : ∀ g : G, (f' g).cell? ⟨a, 1, none⟩ = some (.pointer (some ⟨A, 0, none⟩)) := fun g => (h.quiet (hf1 g)).c1
  have c3 : ∀ g : G, (f' g).cell? ⟨a, 3, none⟩ = some (.int .i64 d.gen) := fun g => (h.quiet (hf1 g)).c3
  have c4 : ∀ g : G, (f' g).cell? ⟨a, 4, none⟩ = some (.int .i64 d.wnt) := fun g => (h.quiet (hf1 g)).c4
  have HX1 := Lib.hid hf1
  have HX2 := Lib.hid hf2
  have HQq := Lib.hid (Ch.refl [] w)
  have HO := Lib.hid (fun g : G => show Calls Tryz.prog 52 #[.pointer (some ⟨A, 0, none⟩)] (f' g) fun e w' => e = .returned (.int .i64 z) ∧ Below (f' g).heap.size (f' g) w' from by
    have h2 := (h.quiet (hf1 g)).l.open'
    rwa [hz] at h2)
  have hs : d.sc.isSome = false := by
    have := (Bool.and_eq_true_iff.1 hq).1
    simpa using this
  have hask : 0 < z ∨ (z = 0 ∧ d.gen < d.wnt) := by
    have h3 := (Bool.and_eq_true_iff.1 hq).2
    rcases Bool.or_eq_true_iff.1 h3 with h4 | h4
    · exact .inl (of_decide_eq_true h4)
    · have := of_decide_eq_true h4
      omega
  have HR := Lib.hid (fun g : G => (h.quiet (hf1 g)).running hs)
  have hww : IntKind.i64.wrap (d.gen + 1) = d.gen + 1 := IntWalk.i64_in _ (by omega)
  have hM : ∀ w1, Ch [] w w1 → GM w0 w (w1.setCell ⟨a, 3, none⟩ (.int .i64 (d.gen + 1))) base top b A a L n d (d.gen + 1) (scV d.sc) := fun w1 hc => h.mid _ hc
  have HM := Lib.hid hM
  have HG0 := Lib.hid (show 1 ≤ d.gen + 1 ∧ d.gen ≤ d.gen + 1 by omega)
  have HLw := Lib.hid hLw
  have hf : ∀ k, w.frozen? ⟨a, k, none⟩ = false := h.fr
  clear h hf1 hf2 hq hs hz hz0 hgen hM hbd hLw
  go_enter Tryz.func62, Tryz.ntmps62
  go_wp2_with fail
  rcases hask with hz1 | ⟨rfl, hlt⟩
  · have e1 : (z == 0) = false := by simpa using (by omega : z ≠ 0)
    clear hz1
    refine wp_region_worlds f' (by kernel_rfl) (by kernel_rfl) (HX2.out _ HQq.out.drew) ?_
    repeat (go_big_quiet_step (first
      | (with_reducible refine (HR.out _).mono ?_; rintro r w' ⟨rfl, rfl⟩; exact ⟨rfl, _, rfl⟩)
      | (with_reducible refine (HO.out _).mono ?_; rintro r w' ⟨rfl, hcw⟩; exact ⟨rfl, HX2.out w' ((HX1.out _).trans (.of_below hcw))⟩)))
    refine wpQuiet_nil ?_
    rintro _ ⟨gz, rfl⟩
    have HC1 := Lib.hid (HX1.out gz)
    have d3 := c3 gz
    have f3 := (H.out.quiet (HX1.out gz)).fr 3
    clear c1 c3 c4 HO HR HQq HX2
    generalize f' gz = w1 at *
    clear HX1 hne
    have HM2 := Lib.hid (HM.out w1 HC1.out)
    have e0 := HM2.out.c0
    go_wp2_with fail
    obtain ⟨w2, hw2⟩ : ∃ W, W = w1.setCell ⟨a, 3, none⟩ (.int .i64 (d.gen + 1)) := ⟨_, rfl⟩
    rw [← hw2] at HM2 e0 ⊢
    have HW2 := Lib.hid (show w.heap.size ≤ w2.heap.size by have := HC1.out.size; rw [hw2]; simpa [World.setCell] using this)
    clear hw2 d3 f3 HM
    with_reducible refine (HM2.out.s.scan H.out.tab).mono ?_
    rintro e w3 ⟨c, rfl, hx, hlo, hc3⟩
    have HM3 := HM2.out.quiet hc3
    have e2 := HM3.c2
    have f2 := HM3.fr 2
    have hM4 := HM3.set2 (v := .pointer (some ⟨c, 0, none⟩)) H.out
    have hca : a < c ∧ L ≤ c ∧ w.heap.size ≤ c := by
      have h1 := HW2.out
      have h2 := HLw.out
      have h3 := H.out.al
      omega
    have hsn := hx.n.chP (T := fun k => k = a) ((ChP.refl (fun k => k = a) w3).setCell (p := ⟨a, 2, none⟩) (.inl rfl) (.pointer (some ⟨c, 0, none⟩))) (by omega)
    have HM4 := Lib.hid hM4
    have HSn := Lib.hid hsn
    have HCa := Lib.hid hca
    clear hx hlo hc3 HM3 hM4 hsn hca e0
    go_wp2_with fail
    generalize w3.setCell ⟨a, 2, none⟩ (.pointer (some ⟨c, 0, none⟩)) = w4 at *
    clear e2 f2 HM2
    have e1 := HM4.out.c1
    have e3 := HM4.out.c3
    have HCl := Lib.hid ((HM4.out.quiet ((Ch.refl [] w4).drew)).l.close HG0.out.1 HG0.out.2)
    go_region_with (with_reducible refine HCl.out.mono ?_; rintro e w5 ⟨rfl, hl, hc5⟩; have HL5 := Lib.hid hl; have HC5 := Lib.hid hc5; clear hl hc5)
    all_goals
      go_wp2_with fail
      go_ret
      have hM5 := HM4.out.quiet ((Ch.refl [] w4).drew)
      refine ⟨rfl, c, HCa.out.2.2, ?_, ?_⟩
      · rw [HBd.out]
        exact GM.fin (s := ⟨c, d.x.n, inP d.x, 0⟩) hM5 H.out HSn.out.drew HCa.out.2.1 (show (0 : Nat) < 64 by decide) HL5.out HC5.out
      · exact (hM5.ch.mono fun k e => e ▸ H.out.oa).trans (HC5.out.mono fun k o => H.out.ol o)
  · have hle : ¬ d.wnt ≤ d.gen := by omega
    clear hlt
    refine wp_region_worlds f' (by kernel_rfl) (by kernel_rfl) (HX2.out _ HQq.out.drew) ?_
    repeat (go_big_quiet_step (first
      | (with_reducible refine (HR.out _).mono ?_; rintro r w' ⟨rfl, rfl⟩; exact ⟨rfl, _, rfl⟩)
      | (with_reducible refine (HO.out _).mono ?_; rintro r w' ⟨rfl, hcw⟩; exact ⟨rfl, HX2.out w' ((HX1.out _).trans (.of_below hcw))⟩)))
    refine wpQuiet_nil ?_
    rintro _ ⟨gz, rfl⟩
    have HC1 := Lib.hid (HX1.out gz)
    have d3 := c3 gz
    have f3 := (H.out.quiet (HX1.out gz)).fr 3
    clear c1 c3 c4 HO HR HQq HX2
    generalize f' gz = w1 at *
    clear HX1 hne
    have HM2 := Lib.hid (HM.out w1 HC1.out)
    have e0 := HM2.out.c0
    go_wp2_with fail
    obtain ⟨w2, hw2⟩ : ∃ W, W = w1.setCell ⟨a, 3, none⟩ (.int .i64 (d.gen + 1)) := ⟨_, rfl⟩
    rw [← hw2] at HM2 e0 ⊢
    have HW2 := Lib.hid (show w.heap.size ≤ w2.heap.size by have := HC1.out.size; rw [hw2]; simpa [World.setCell] using this)
    clear hw2 d3 f3 HM
    with_reducible refine (HM2.out.s.scan H.out.tab).mono ?_
    rintro e w3 ⟨c, rfl, hx, hlo, hc3⟩
    have HM3 := HM2.out.quiet hc3
    have e2 := HM3.c2
    have f2 := HM3.fr 2
    have hM4 := HM3.set2 (v := .pointer (some ⟨c, 0, none⟩)) H.out
    have hca : a < c ∧ L ≤ c ∧ w.heap.size ≤ c := by
      have h1 := HW2.out
      have h2 := HLw.out
      have h3 := H.out.al
      omega
    have hsn := hx.n.chP (T := fun k => k = a) ((ChP.refl (fun k => k = a) w3).setCell (p := ⟨a, 2, none⟩) (.inl rfl) (.pointer (some ⟨c, 0, none⟩))) (by omega)
    have HM4 := Lib.hid hM4
    have HSn := Lib.hid hsn
    have HCa := Lib.hid hca
    clear hx hlo hc3 HM3 hM4 hsn hca e0
    go_wp2_with fail
    generalize w3.setCell ⟨a, 2, none⟩ (.pointer (some ⟨c, 0, none⟩)) = w4 at *
    clear e2 f2 HM2
    have e1 := HM4.out.c1
    have e3 := HM4.out.c3
    have HCl := Lib.hid ((HM4.out.quiet ((Ch.refl [] w4).drew)).l.close HG0.out.1 HG0.out.2)
    go_region_with (with_reducible refine HCl.out.mono ?_; rintro e w5 ⟨rfl, hl, hc5⟩; have HL5 := Lib.hid hl; have HC5 := Lib.hid hc5; clear hl hc5)
    all_goals
      go_wp2_with fail
      go_ret
      have hM5 := HM4.out.quiet ((Ch.refl [] w4).drew)
      refine ⟨rfl, c, HCa.out.2.2, ?_, ?_⟩
      · rw [HBd.out]
        exact GM.fin (s := ⟨c, d.x.n, inP d.x, 0⟩) hM5 H.out HSn.out.drew HCa.out.2.1 (show (0 : Nat) < 64 by decide) HL5.out HC5.out
      · exact (hM5.ch.mono fun k e => e ▸ H.out.oa).trans (HC5.out.mono fun k o => H.out.ol o)
end
end Go.Proofs.YtjoaigadlpndcaaGreatDoor

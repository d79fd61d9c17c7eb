/-
  A domain: how a grace period ends and begins; Poll; New.
-/
import Derived.Test.YtjoaigadlpndcaaGreatDoorGrA
namespace Go.Proofs.YtjoaigadlpndcaaGreatDoor
open Go.RowKit Go.Shelf
open rC (Th)

/-- Who is left behind a poll, its place. -/
def pLeft (d : Dm) (s : Sc) : Nat → Bool := pollL (endF s.t d.x) s.P s.p 16
/-- The first half of a poll: behind it, and what is told. -/
def endD (d : Dm) : Dm := match d.sc with
  | none => d
  | some s => if cntN (pLeft d s) 64 = 0 then { d with sc := none, f := fun i => (d.f i).dropWhile (up d.gen) } else { d with sc := some ⟨s.c, s.t, pLeft d s, pollP s.P s.p 16⟩ }
def endO (n : Nat) (d : Dm) : List Int := match d.sc with
  | none => []
  | some s => if cntN (pLeft d s) 64 = 0 then outN d.gen d.f n else []
/-- The second half. -/
def asks (n : Nat) (d : Dm) : Bool := !d.sc.isSome && (decide (0 < zcI (catL d.f n)) || decide (d.gen < d.wnt))
def begD (c n : Nat) (d : Dm) : Dm := if asks n d = true then { d with gen := d.gen + 1, sc := some ⟨c, d.x.n, inP d.x, 0⟩, f := fun i => (d.f i).map (giveT (d.gen + 1)) } else d
theorem end_x (d : Dm) : (endD d).x = d.x ∧ (endD d).gen = d.gen ∧ (endD d).wnt = d.wnt := by
  unfold endD
  split
  · exact ⟨rfl, rfl, rfl⟩
  · split <;> exact ⟨rfl, rfl, rfl⟩
theorem end_sc {d : Dm} {s : Sc} (h : (endD d).sc = some s) : ∃ s', d.sc = some s' ∧ s.c = s'.c := by
  unfold endD at h
  split at h
  · rename_i e; rw [e] at h; cases h
  · rename_i s' e
    refine ⟨s', e, ?_⟩
    split at h
    · cases h
    · simp only [Option.some.injEq] at h; rw [← h]
theorem end_go {base a k : Nat} {d : Dm} (h : GO base a (endD d).sc k) : GO base a d.sc k := by
  rcases h with h | ⟨s, e, rfl⟩
  · exact .inl h
  · obtain ⟨s', e1, e2⟩ := end_sc e
    exact .inr ⟨s', e1, e2⟩

section
variable {w0 w w' : World} {base top b A a L n : Nat} {d : Dm}
/-- The scan turned. -/
theorem GB.scan (h : GB w0 w base top b A a L n d) {s : Sc} (e : d.sc = some s) {t' : Int} {p' : Nat → Bool} {P' : Nat} (hx : XL w0 w' b s.c d.x t' p' P') (hc : Ch [s.c] w w') : GB w0 w' base top b A a L n { d with sc := some ⟨s.c, t', p', P'⟩ } := by
  have hP : ChP (fun k => k = s.c) w w' := .of hc (by simp)
  have hac := (h.sc_ne e).2
  have hba := h.ba
  have htb := h.tb
  have hlc := (h.sn s e).2.1
  have ha : w'.heap[a]? = w.heap[a]? := hP.block a h.lt (by omega)
  have ec : ∀ o, w'.cell? ⟨a, o, none⟩ = w.cell? ⟨a, o, none⟩ := fun o => World.cell?_of_block (a := ⟨a, o, none⟩) ha
  have c2 := h.c2
  rw [e] at c2
  exact ⟨(ec _).trans h.c0, (ec _).trans h.c1, (ec _).trans c2, (ec _).trans h.c3, (ec _).trans h.c4, fun k => (World.frozen?_of_block (a := ⟨a, k, none⟩) ha).trans (h.fr k),
    hx.l, h.l.chP hP (fun k e o => by have := o.2; omega), h.lo, h.tb, h.ba, h.al,
    fun s' e' => by simp only [Option.some.injEq] at e'; subst e'; exact ⟨hx.n, hlc, hx.lt⟩, h.tab⟩
/-- What a cell of its own is given. -/
theorem GB.put2 (h : GB w0 w base top b A a L n d) (sc : Option Sc) (hs : ∀ s, sc = some s → Sn w s.c (.pointer (some ⟨b, 0, none⟩)) s.t s.p s.P ∧ L ≤ s.c ∧ s.P < 64) :
    GB w0 (w.setCell ⟨a, 2, none⟩ (scV sc)) base top b A a L n { d with sc := sc } ∧ ChP (fun k => k = a) w (w.setCell ⟨a, 2, none⟩ (scV sc)) := by
  have hP : ChP (fun k => k = a) w (w.setCell ⟨a, 2, none⟩ (scV sc)) := (ChP.refl (fun k => k = a) w).setCell (p := ⟨a, 2, none⟩) (.inl rfl) _
  exact ⟨⟨setCell_other h.c0 (addr_ne_off (by decide)), setCell_other h.c1 (addr_ne_off (by decide)), setCell_same h.c2, setCell_other h.c3 (addr_ne_off (by decide)), setCell_other h.c4 (addr_ne_off (by decide)), fun k => by simpa using h.fr k,
      h.s.turnP hP (by have := h.ba; omega) (fun k e => by rw [e]; exact h.o_lo h.oa), h.l.chP hP (fun k e o => by have := o.2; have := h.tb; have := h.ba; omega), h.lo, h.tb, h.ba, h.al,
      fun s e => ⟨(hs s e).1.chP hP (by have := (hs s e).2.1; have := h.al; omega), (hs s e).2⟩, h.tab⟩, hP⟩
theorem GB.run (h : GB w0 w base top b A a L n d) {s : Sc} (e : d.sc = some s) : XL w0 w b s.c d.x s.t s.p s.P :=
  ⟨h.s, (h.sn s e).1, by have := (h.sc_ne e).2; have := h.ba; omega, h.o_lo (h.osc e), h.tab, (h.sn s e).2.2⟩
theorem nil_row (w : World) (B e s : Nat) : w.ownsRow B e s (.slice none 0 0) 0 [] := ⟨by simp, .inl ⟨rfl, rfl⟩⟩

/-- What the first half of a poll comes to. -/
def EndR (w0 w : World) (base top b A a L n : Nat) (d : Dm) (e : Ending) (w' : World) : Prop :=
  ∃ v, e = .returned v ∧ w'.ownsRow w.heap.size 3 1 v (endO n d).length (ivs (endO n d)) ∧ GB w0 w' base top b A a L n (endD d) ∧ ChP (GO base a d.sc) w w'
set_option maxHeartbeats 2000000 in
theorem GB.end_any (h : GB w0 w base top b A a L n d) : Calls Tryz.prog 61 #[.pointer (some ⟨a, 0, none⟩)] w (EndR w0 w base top b A a L n d) := by
  cases hs : d.sc with
  | none =>
    have H1 := Lib.hid (h.running (u := false) (by rw [hs]; rfl))
    have e1 : endO n d = [] := by unfold endO; rw [hs]
    have e2 : endD d = d := by unfold endD; rw [hs]
    have HF : EndR w0 w base top b A a L n d (.returned (.slice none 0 0)) w := ⟨_, rfl, by rw [e1]; exact nil_row _ _ _ _, by rw [e2]; exact h, ChP.refl _ _⟩
    replace HF := Lib.hid HF
    clear h hs e1 e2
    go_enter Tryz.func61, Tryz.ntmps61
    go_wp2_with fail
    with_reducible refine H1.out.mono ?_
    rintro e w' ⟨rfl, rfl⟩
    go_wp2_with fail
    go_ret
    exact HF.out
  | some s =>
    have H1 := Lib.hid (h.running (u := true) (by rw [hs]; rfl))
    have H2 := Lib.hid ((h.run hs).poll 16 (p' := pLeft d s) (P' := pollP s.P s.p 16) rfl rfl rfl)
    have c2 := h.c2
    rw [hs] at c2
    simp only [scV] at c2
    have H := Lib.hid h
    have HS := Lib.hid hs
    by_cases hc : cntN (pLeft d s) 64 = 0
    · have e1 : endO n d = outN d.gen d.f n := by unfold endO; rw [hs]; exact if_pos hc
      have e2 : endD d = { d with sc := none, f := fun i => (d.f i).dropWhile (up d.gen) } := by unfold endD; rw [hs]; exact if_pos hc
      rw [hc] at H2
      have HE1 := Lib.hid e1
      have HE2 := Lib.hid e2
      clear h hs hc e1 e2
      generalize pLeft d s = p' at *
      go_enter Tryz.func61, Tryz.ntmps61
      go_wp2_with fail
      with_reducible refine H1.out.mono ?_
      rintro e w' ⟨rfl, rfl⟩
      go_wp2_with fail
      with_reducible refine H2.out.mono ?_
      rintro e w1 ⟨rfl, hx, hc1⟩
      have hg1 := H.out.scan HS.out hx hc1
      have d2 := hg1.c2
      have f2 := hg1.fr 2
      simp only [scV] at d2
      obtain ⟨hg2, hp2⟩ := hg1.put2 none (fun s e => by cases e)
      simp only [scV] at hg2 hp2
      have hcp : ChP (GO base a d.sc) w (w1.setCell ⟨a, 2, none⟩ (.pointer none)) :=
        (ChP.of hc1 (fun k hk => (show k = s.c from (by simpa using hk)) ▸ H.out.osc HS.out)).trans (hp2.mono fun k e => e ▸ H.out.oa)
      have HG2 := Lib.hid hg2
      have HC2 := Lib.hid hcp
      clear hx hc1 hg1 hg2 hp2 hcp
      go_wp2_with fail
      generalize w1.setCell ⟨a, 2, none⟩ (.pointer none) = w2 at *
      clear d2 f2 c2 H2 H1
      have c1 := HG2.out.c1
      have c3 := HG2.out.c3
      dsimp only at c3
      have HD := Lib.hid ((HG2.out.quiet ((Ch.refl [] w2).drew)).l.done d.gen)
      dsimp only at HD
      generalize hgen : d.gen = gn at *
      replace hgen := Lib.hid hgen
      go_region_with (with_reducible refine HD.out.mono ?_; rintro e w3 ⟨v, rfl, hrow, hl, hc3⟩; have HRw := Lib.hid hrow; have HLs := Lib.hid hl; have HC3 := Lib.hid hc3; clear hrow hl hc3)
      all_goals
        go_wp2_with fail
        go_ret
        have hsz := HC2.out.size
        have hg3 := (HG2.out.quiet ((Ch.refl [] w2).drew)).list (by dsimp only; exact HLs.out) HC3.out
        refine ⟨_, rfl, ?_, ?_, ?_⟩
        · rw [HE1.out]
          exact own_mono HRw.out (by simpa using hsz)
        · rw [HE2.out]
          exact hg3
        · exact (HC2.out.trans (.quiet ((Ch.refl [] w2).drew))).trans (HC3.out.mono fun k o => H.out.ol o)
    · have e1 : endO n d = [] := by unfold endO; rw [hs]; exact if_neg hc
      have e2 : endD d = { d with sc := some ⟨s.c, s.t, pLeft d s, pollP s.P s.p 16⟩ } := by unfold endD; rw [hs]; exact if_neg hc
      have HE1 := Lib.hid e1
      have HE2 := Lib.hid e2
      clear h hs e1 e2
      generalize pLeft d s = p' at *
      obtain ⟨v, hv⟩ : ∃ v, v = cntN p' 64 := ⟨_, rfl⟩
      rw [← hv] at H2 hc
      have hgt : 0 < v := by omega
      clear hc hv
      go_enter Tryz.func61, Tryz.ntmps61
      go_wp2_with fail
      with_reducible refine H1.out.mono ?_
      rintro e w' ⟨rfl, rfl⟩
      go_wp2_with fail
      with_reducible refine H2.out.mono ?_
      rintro e w1 ⟨rfl, hx, hc1⟩
      have HX := Lib.hid hx
      have HC1 := Lib.hid hc1
      clear hx hc1
      go_wp2_with fail
      go_ret
      refine ⟨_, rfl, ?_, ?_, ?_⟩
      · rw [HE1.out]; exact nil_row _ _ _ _
      · rw [HE2.out]; exact H.out.scan HS.out HX.out HC1.out
      · exact ChP.of HC1.out (fun k hk => (show k = s.c from (by simpa using hk)) ▸ H.out.osc HS.out)

/-- What the second half comes to: its scan's block. -/
def BegR (w0 w : World) (base top b A a L n : Nat) (d : Dm) (e : Ending) (w' : World) : Prop :=
  e = .returned (.slice none 0 0) ∧ ∃ c, w.heap.size ≤ c ∧ GB w0 w' base top b A a L n (begD c n d) ∧ ChP (GO base a d.sc) w w'
end
end Go.Proofs.YtjoaigadlpndcaaGreatDoor

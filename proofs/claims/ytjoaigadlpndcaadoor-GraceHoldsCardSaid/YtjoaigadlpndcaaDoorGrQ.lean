/-
  Plain: a law's domain, step by step; what always holds of it; how many polls are enough; a barrier.
-/
import Derived.Test.YtjoaigadlpndcaaDoorGrP
import Derived.Test.YtjoaigadlpndcaaDoorGrK
namespace Go.Proofs.YtjoaigadlpndcaaDoor
open rC (Th)

theorem sOf_at (x : SS) {k : Nat} (hk : k < 64) : sOf x (k : Int) = x.s k := by unfold sOf; rw [if_pos (by omega), Int.toNat_natCast]
theorem lZ_dm : dmOf lZ = dZ := by unfold dmOf lZ dZ; rw [fAB_zero]; rfl
/-- What always holds. -/
structure LI (l : LS) : Prop where
  g0 : 0 ≤ l.gen
  run : ∀ s, l.sc = some s → 1 ≤ l.gen
  idle : l.sc = none → l.A = nilI
  wnt : l.wnt ≤ l.gen + 1
theorem LI.zero : LI lZ := ⟨by decide, fun s e => (by cases e), fun _ => rfl, by decide⟩
/-- Does it ask for one more? -/
def askL (n : Nat) (l : LS) : Bool := !l.sc.isSome && (decide (catI l.B n ≠ []) || decide (l.gen < l.wnt))
def leftL (l : LS) (s : Sc) : Nat → Bool := pLeft (dmOf l) s
theorem leftL_is (l : LS) (s : Sc) : leftL l s = pollL (endF s.t l.x) s.P s.p 16 := rfl
def endL (l : LS) : LS := match l.sc with
  | none => l
  | some s => if cntN (leftL l s) 64 = 0 then { l with sc := none, A := nilI } else { l with sc := some ⟨s.c, s.t, leftL l s, pollP s.P s.p 16⟩ }
def outL (n : Nat) (l : LS) : List Int := match l.sc with
  | none => []
  | some s => if cntN (leftL l s) 64 = 0 then catI l.A n else []
def begL (c n : Nat) (l : LS) : LS := if askL n l = true then { l with gen := l.gen + 1, sc := some ⟨c, l.x.n, inP l.x, 0⟩, A := l.B, B := nilI } else l
theorem end_dm {l : LS} (h : LI l) (n : Nat) : endD (dmOf l) = dmOf (endL l) ∧ endO n (dmOf l) = outL n l ∧ LI (endL l) := by
  cases hs : l.sc with
  | none =>
    have e1 : endL l = l := by unfold endL; rw [hs]
    have e2 : endD (dmOf l) = dmOf l := by unfold endD; rw [show (dmOf l).sc = none from hs]
    have e3 : endO n (dmOf l) = [] := by unfold endO; rw [show (dmOf l).sc = none from hs]
    have e4 : outL n l = [] := by unfold outL; rw [hs]
    rw [e1, e2, e3, e4]
    exact ⟨rfl, rfl, h⟩
  | some s =>
    have hg := h.run s hs
    by_cases hc : cntN (leftL l s) 64 = 0
    · have e1 : endL l = { l with sc := none, A := nilI } := by unfold endL; rw [hs]; exact if_pos hc
      have e2 : endD (dmOf l) = { dmOf l with sc := none, f := fun i => ((dmOf l).f i).dropWhile (up (dmOf l).gen) } := by unfold endD; rw [show (dmOf l).sc = some s from hs]; exact if_pos hc
      have e3 : endO n (dmOf l) = outN (dmOf l).gen (dmOf l).f n := by unfold endO; rw [show (dmOf l).sc = some s from hs]; exact if_pos hc
      have e4 : outL n l = catI l.A n := by unfold outL; rw [hs]; exact if_pos hc
      rw [e1, e2, e3, e4]
      have hd : (fun i => ((dmOf l).f i).dropWhile (up (dmOf l).gen)) = fAB l.gen nilI l.B := by
        rw [fAB_zero]
        funext i
        exact (fAB_done hg l.A l.B i).1
      rw [hd]
      exact ⟨rfl, fAB_out hg l.A l.B n, h.g0, fun s e => (by cases e), fun _ => rfl, h.wnt⟩
    · have e1 : endL l = { l with sc := some ⟨s.c, s.t, leftL l s, pollP s.P s.p 16⟩ } := by unfold endL; rw [hs]; exact if_neg hc
      have e2 : endD (dmOf l) = { dmOf l with sc := some ⟨s.c, s.t, leftL l s, pollP s.P s.p 16⟩ } := by unfold endD; rw [show (dmOf l).sc = some s from hs]; exact if_neg hc
      have e3 : endO n (dmOf l) = [] := by unfold endO; rw [show (dmOf l).sc = some s from hs]; exact if_neg hc
      have e4 : outL n l = [] := by unfold outL; rw [hs]; exact if_neg hc
      rw [e1, e2, e3, e4]
      exact ⟨rfl, rfl, h.g0, fun s' e => hg, fun e => (by cases e), h.wnt⟩
theorem asks_dm {l : LS} (h : LI l) (n : Nat) : asks n (dmOf l) = askL n l := by
  unfold asks askL dmOf
  dsimp only
  cases hs : l.sc with
  | some s => rfl
  | none =>
    have hA := h.idle hs
    rw [hA, fAB_open0]
    congr 2
    rw [decide_eq_decide]
    rw [← List.length_pos_iff]
    omega
theorem beg_dm {l : LS} (h : LI l) (c n : Nat) (hB : ∀ i, n ≤ i → l.B i = []) : begD c n (dmOf l) = dmOf (begL c n l) ∧ LI (begL c n l) := by
  unfold begD begL
  rw [asks_dm h n]
  by_cases hq : askL n l = true
  · rw [if_pos hq, if_pos hq]
    have hs : l.sc = none := by
      unfold askL at hq
      have := (Bool.and_eq_true_iff.1 hq).1
      cases hh : l.sc with
      | none => rfl
      | some s => rw [hh] at this; simp at this
    have hA := h.idle hs
    have h0 := h.g0
    have hw := h.wnt
    refine ⟨?_, by dsimp only; omega, fun s e => by dsimp only; omega, fun e => (by cases e), by dsimp only; omega⟩
    unfold dmOf
    dsimp only
    rw [hA, fAB_close]
  · rw [if_neg hq, if_neg hq]
    exact ⟨rfl, h⟩
/-- A poll. -/
def pollLS (c n : Nat) (l : LS) : LS := begL c n (endL l)
theorem end_B (l : LS) : (endL l).B = l.B ∧ (endL l).x = l.x ∧ (endL l).gen = l.gen ∧ (endL l).wnt = l.wnt := by
  unfold endL
  split
  · exact ⟨rfl, rfl, rfl, rfl⟩
  · split <;> exact ⟨rfl, rfl, rfl, rfl⟩
theorem poll_dm {l : LS} (h : LI l) (c n : Nat) (hB : ∀ i, n ≤ i → l.B i = []) : begD c n (endD (dmOf l)) = dmOf (pollLS c n l) ∧ endO n (dmOf l) = outL n l ∧ LI (pollLS c n l) := by
  obtain ⟨h1, h2, h3⟩ := end_dm h n
  have h4 := beg_dm h3 c n (by rw [(end_B l).1]; exact hB)
  rw [h1]
  exact ⟨h4.1, h2, h4.2⟩
theorem beg_x (c n : Nat) (l : LS) : (begL c n l).x = l.x ∧ (begL c n l).wnt = l.wnt ∧ l.gen ≤ (begL c n l).gen ∧ (begL c n l).gen ≤ l.gen + 1 := by
  unfold begL
  split
  · exact ⟨rfl, rfl, by dsimp only; omega, by dsimp only; omega⟩
  · exact ⟨rfl, rfl, by omega, by omega⟩
theorem poll_x (c n : Nat) (l : LS) : (pollLS c n l).x = l.x ∧ (pollLS c n l).wnt = l.wnt ∧ l.gen ≤ (pollLS c n l).gen ∧ (pollLS c n l).gen ≤ l.gen + 1 := by
  have h1 := beg_x c n (endL l)
  have h2 := end_B l
  unfold pollLS
  rw [h2.2.1, h2.2.2.1, h2.2.2.2] at h1
  exact h1
/-- A poll, seen by its three ways: nothing turns but the scan; what ran is over; one begins. -/
theorem end_ways (n : Nat) (l : LS) : (endL l = l ∧ outL n l = [] ∧ l.sc = none) ∨
    (∃ s, l.sc = some s ∧ cntN (leftL l s) 64 = 0 ∧ endL l = { l with sc := none, A := nilI } ∧ outL n l = catI l.A n) ∨
    (∃ s, l.sc = some s ∧ cntN (leftL l s) 64 ≠ 0 ∧ endL l = { l with sc := some ⟨s.c, s.t, leftL l s, pollP s.P s.p 16⟩ } ∧ outL n l = []) := by
  cases hs : l.sc with
  | none =>
    left
    refine ⟨?_, ?_, rfl⟩
    · unfold endL; rw [hs]
    · unfold outL; rw [hs]
  | some s =>
    right
    by_cases hc : cntN (leftL l s) 64 = 0
    · left
      refine ⟨s, rfl, hc, ?_, ?_⟩
      · unfold endL; rw [hs]; exact if_pos hc
      · unfold outL; rw [hs]; exact if_pos hc
    · right
      refine ⟨s, rfl, hc, ?_, ?_⟩
      · unfold endL; rw [hs]; exact if_neg hc
      · unfold outL; rw [hs]; exact if_neg hc
theorem beg_ways (c n : Nat) (l : LS) : (askL n l = true ∧ l.sc = none ∧ begL c n l = { l with gen := l.gen + 1, sc := some ⟨c, l.x.n, inP l.x, 0⟩, A := l.B, B := nilI }) ∨ (askL n l = false ∧ begL c n l = l) := by
  by_cases hq : askL n l = true
  · left
    refine ⟨hq, ?_, ?_⟩
    · unfold askL at hq
      have := (Bool.and_eq_true_iff.1 hq).1
      cases hh : l.sc with
      | none => rfl
      | some s => rw [hh] at this; simp at this
    · unfold begL; rw [if_pos hq]
  · right
    refine ⟨by simpa using hq, ?_⟩
    unfold begL; rw [if_neg hq]
/-- How many of the callbacks are told, and wait, of those that are such. -/
theorem beg_cnt (p : Int → Bool) (c n : Nat) {l : LS} (h : LI l) : (catI (begL c n l).A n).countP p + (catI (begL c n l).B n).countP p = (catI l.A n).countP p + (catI l.B n).countP p := by
  rcases beg_ways c n l with ⟨_, hs, e⟩ | ⟨_, e⟩
  · rw [e, h.idle hs]
    dsimp only
    rw [catI_nil]
    simp
  · rw [e]
theorem poll_cnt (p : Int → Bool) (c n : Nat) {l : LS} (h : LI l) : (outL n l).countP p + ((catI (pollLS c n l).A n).countP p + (catI (pollLS c n l).B n).countP p) = (catI l.A n).countP p + (catI l.B n).countP p := by
  have h2 := beg_cnt p c n (end_dm h n).2.2
  unfold pollLS
  rw [h2]
  rcases end_ways n l with ⟨e1, e2, _⟩ | ⟨s, _, _, e1, e2⟩ | ⟨s, _, _, e1, e2⟩
  · rw [e1, e2]; simp
  · rw [e1, e2]; dsimp only; rw [catI_nil]; simp
  · rw [e1, e2]; simp
theorem poll_B (c n : Nat) {l : LS} (hB : ∀ i, n ≤ i → l.B i = []) : ∀ i, n ≤ i → (pollLS c n l).B i = [] := by
  intro i hi
  unfold pollLS
  rcases beg_ways c n (endL l) with ⟨_, _, e⟩ | ⟨_, e⟩
  · rw [e]; rfl
  · rw [e, (end_B l).1]; exact hB i hi
theorem poll_len (c n : Nat) {l : LS} (h : LI l) (i : Nat) : ((pollLS c n l).A i).length + ((pollLS c n l).B i).length ≤ (l.A i).length + (l.B i).length := by
  have h1 : ((endL l).A i).length + ((endL l).B i).length ≤ (l.A i).length + (l.B i).length := by
    rcases end_ways n l with ⟨e1, _⟩ | ⟨s, _, _, e1, _⟩ | ⟨s, _, _, e1, _⟩ <;> rw [e1] <;> simp [nilI]
  unfold pollLS
  rcases beg_ways c n (endL l) with ⟨_, hs, e⟩ | ⟨_, e⟩
  · rw [e]
    have := (end_dm h n).2.2.idle hs
    rw [this] at h1
    dsimp only
    simp [nilI] at h1 ⊢
    omega
  · rw [e]; exact h1

/-- How many polls are still wanted, when all are outside. -/
def potL (n : Nat) (l : LS) : Nat := (match l.sc with | none => 0 | some s => max 1 ((cntN s.p 64 + 15) / 16)) + (if catI l.B n ≠ [] ∨ l.gen < l.wnt then (if l.sc.isSome = true then 1 else 2) else 0)
theorem cntN_none (x : SS) (hx : ∀ r, r < 64 → x.d r = 0) : cntN (inP x) 64 = 0 := cntN_zero.2 fun i hi => by
  unfold inP
  rw [hx i hi]
  rfl
theorem beg_pot (c n : Nat) {l : LS} (h : LI l) (hx : ∀ r, r < 64 → l.x.d r = 0) (hs : l.sc = none) : potL n (begL c n l) ≤ potL n l - 1 ∧ (potL n l = 0 ∨ potL n l = 2) ∧ potL n (begL c n l) ≤ 1 := by
  have hw := h.wnt
  rcases beg_ways c n l with ⟨hq, _, e⟩ | ⟨hq, e⟩
  · have h1 : potL n (begL c n l) = 1 := by
      rw [e]
      unfold potL
      dsimp only
      rw [cntN_none l.x hx, if_neg (by rw [catI_nil]; simp; omega)]
      rfl
    have h2 : potL n l = 2 := by
      unfold potL
      rw [hs, if_pos]
      · rfl
      · unfold askL at hq
        have := (Bool.and_eq_true_iff.1 hq).2
        rcases Bool.or_eq_true_iff.1 this with h3 | h3
        · exact .inl (of_decide_eq_true h3)
        · exact .inr (of_decide_eq_true h3)
    omega
  · have h2 : potL n l = 0 := by
      unfold potL
      rw [hs, if_neg]
      intro hh
      unfold askL at hq
      rw [hs] at hq
      rcases hh with h3 | h3
      · rw [decide_eq_true h3] at hq; simp at hq
      · rw [decide_eq_true h3] at hq; simp at hq
    rw [e]
    omega
theorem poll_pot (c n : Nat) {l : LS} (h : LI l) (hx : ∀ r, r < 64 → l.x.d r = 0) (hg : GS l.x) (hP : ∀ s, l.sc = some s → s.P < 64) : potL n (pollLS c n l) ≤ potL n l - 1 := by
  have hB := end_B l
  rcases end_ways n l with ⟨e1, _, hs⟩ | ⟨s, hs, hc, e1, _⟩ | ⟨s, hs, hc, e1, _⟩
  · unfold pollLS
    rw [e1]
    exact (beg_pot c n h hx hs).1
  · have h3 := beg_pot c n (end_dm h n).2.2 (by rw [hB.2.1]; exact hx) (by rw [e1])
    unfold pollLS
    have h4 : potL n l = max 1 ((cntN s.p 64 + 15) / 16) + (if catI l.B n ≠ [] ∨ l.gen < l.wnt then 1 else 0) := by
      unfold potL; rw [hs]; rfl
    have h5 : potL n (endL l) = if catI l.B n ≠ [] ∨ l.gen < l.wnt then 2 else 0 := by
      unfold potL; rw [e1]; dsimp only; rw [Nat.zero_add]; rfl
    have h6 : 1 ≤ max 1 ((cntN s.p 64 + 15) / 16) := Nat.le_max_left _ _
    rw [h4]
    by_cases hq : catI l.B n ≠ [] ∨ l.gen < l.wnt
    · rw [if_pos hq]; omega
    · rw [if_neg hq] at h5; omega
  · have hne : askL n (endL l) = false := by unfold askL; rw [e1]; rfl
    have h2 : pollLS c n l = endL l := by
      unfold pollLS begL
      rw [if_neg (by rw [hne]; decide)]
    have hall : ∀ i, i < 64 → s.p i = true → endF s.t l.x (i : Int) = true := fun i hi _ => by
      have h0 : l.x.s i = 0 := by
        have := hg.op i
        have := hg.s0 i
        have := hx i hi
        omega
      unfold endF endB
      rw [sOf_at l.x hi, h0]
      rfl
    have h3 := pollL_cnt (hP s hs) hall 16
    rw [← leftL_is] at h3
    have h4 : potL n l = max 1 ((cntN s.p 64 + 15) / 16) + (if catI l.B n ≠ [] ∨ l.gen < l.wnt then 1 else 0) := by
      unfold potL; rw [hs]; rfl
    have h5 : potL n (endL l) = max 1 ((cntN (leftL l s) 64 + 15) / 16) + (if catI l.B n ≠ [] ∨ l.gen < l.wnt then 1 else 0) := by
      unfold potL; rw [e1]; rfl
    rw [h2, h4, h5]
    have h7 : (16 : Int).toNat = 16 := rfl
    rw [h7] at h3
    omega
theorem pot_start (n : Nat) (l : LS) : potL n l ≤ 5 := by
  have : ∀ p : Nat → Bool, cntN p 64 ≤ 64 := fun p => cntN_le p 64
  unfold potL
  cases hs : l.sc with
  | none =>
    dsimp only
    split
    · simp
    · omega
  | some s =>
    dsimp only
    have h1 := this s.p
    have h2 : max 1 ((cntN s.p 64 + 15) / 16) ≤ 4 := by omega
    split
    · simp; omega
    · omega
/-- When none is wanted any more. -/
theorem pot_zero {n : Nat} {l : LS} (h : LI l) (hp : potL n l = 0) : l.sc = none ∧ catI l.A n = [] ∧ catI l.B n = [] ∧ l.wnt ≤ l.gen := by
  have hs : l.sc = none := by
    cases hs : l.sc with
    | none => rfl
    | some s => unfold potL at hp; rw [hs] at hp; dsimp only at hp; omega
  have hn : ¬ (catI l.B n ≠ [] ∨ l.gen < l.wnt) := fun hq => by
    unfold potL at hp
    rw [hs, if_pos hq] at hp
    simp at hp
  refine ⟨hs, by rw [h.idle hs, catI_nil], Classical.byContradiction fun hb => hn (.inl hb), Int.not_lt.1 fun hl => hn (.inr hl)⟩
end Go.Proofs.YtjoaigadlpndcaaDoor

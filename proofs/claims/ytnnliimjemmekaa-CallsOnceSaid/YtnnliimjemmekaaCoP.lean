/-
  CallsOnce, plain: who waits, who is told, in which order.
-/
import Derived.Test.YtnnliimjemmekaaCaP
namespace Go.Proofs.Ytnnliimjemmekaa
open rC (Th)

/-- Callback k on CPU c, as the law numbers it. -/
def encK (C : Nat → Nat) (k : Nat) : Int := ((k * 4 + C k : Nat) : Int)
/-- The callbacks so far. -/
def ksN (n : Nat) : List Nat := List.range' 1 n
theorem ksN_mem {n k : Nat} : k ∈ ksN n ↔ 1 ≤ k ∧ k ≤ n := by unfold ksN; rw [List.mem_range'_1]; omega
theorem ksN_succ (n : Nat) : ksN (n + 1) = ksN n ++ [n + 1] := by unfold ksN; rw [List.range'_concat]; simp [Nat.add_comm]
theorem ksN_lt (n : Nat) : (ksN n).Pairwise (· < ·) := by unfold ksN; exact List.pairwise_lt_range'
/-- Who waits on a CPU. -/
def waitN (C : Nat → Nat) (t : Nat → Bool) (n c : Nat) : List Nat := (ksN n).filter fun k => decide (C k = c) && !t k
def fT (C : Nat → Nat) (g : Nat → Int) (t : Nat → Bool) (n c : Nat) : List Th := (waitN C t n c).map fun k => (encK C k, g k)
theorem waitN_mem {C : Nat → Nat} {t : Nat → Bool} {n c k : Nat} : k ∈ waitN C t n c ↔ (1 ≤ k ∧ k ≤ n) ∧ C k = c ∧ t k = false := by
  unfold waitN
  rw [List.mem_filter, ksN_mem]
  simp
theorem fT_len (C : Nat → Nat) (g : Nat → Int) (t : Nat → Bool) (n c : Nat) : (fT C g t n c).length ≤ n := by
  unfold fT waitN
  rw [List.length_map]
  refine Nat.le_trans (List.length_filter_le _ _) ?_
  unfold ksN
  simp

/-- What always holds: of n callbacks, on CPUs C, of generations g up to gen; t: who is told; la: who was told last on each CPU. -/
structure ON (n : Nat) (gen : Int) (C : Nat → Nat) (g : Nat → Int) (t : Nat → Bool) (la : Nat → Int) : Prop where
  c4 : ∀ k, C k < 4
  g0 : ∀ k, 1 ≤ k → k ≤ n → 0 ≤ g k ∧ g k ≤ gen
  gz : ∀ k, n < k → g k = 0
  ord : ∀ k k', 1 ≤ k → k < k' → k' ≤ n → g k' = 0 ∨ (1 ≤ g k ∧ g k ≤ g k')
  tl : ∀ k, 1 ≤ k → k ≤ n → (t k = true ↔ (k : Int) ≤ la (C k))
  tz : ∀ k, n < k → t k = false
  la0 : ∀ c, c < 4 → 0 ≤ la c ∧ la c ≤ (n : Int)
  gen0 : 0 ≤ gen ∧ gen ≤ (n : Int)
theorem ON.zero (C : Nat → Nat) (hC : ∀ k, C k < 4) : ON 0 0 C (fun _ => 0) (fun _ => false) (fun _ => 0) :=
  ⟨hC, fun k h1 h2 => by omega, fun _ _ => rfl, fun k k' h1 h2 h3 => by omega, fun k h1 h2 => by omega, fun _ _ => rfl, fun _ _ => ⟨by omega, by omega⟩, by omega, by omega⟩
section
variable {n : Nat} {gen : Int} {C : Nat → Nat} {g : Nat → Int} {t : Nat → Bool} {la : Nat → Int}
/-- One more callback. -/
def putC (C : Nat → Nat) (k c : Nat) : Nat → Nat := fun i => if i = k then c else C i
theorem ON.add (h : ON n gen C g t la) {c : Nat} (hc : c < 4) : ON (n + 1) gen (putC C (n + 1) c) g t la := by
  have hp : ∀ k, k ≤ n → putC C (n + 1) c k = C k := fun k hk => if_neg (by omega)
  refine ⟨fun k => by unfold putC; split; exact hc; exact h.c4 k, fun k h1 h2 => ?_, fun k hk => h.gz k (by omega), fun k k' h1 h2 h3 => ?_, fun k h1 h2 => ?_, fun k hk => h.tz k (by omega), fun c hc => by have := h.la0 c hc; omega, by have := h.gen0; omega⟩
  · by_cases e : k = n + 1
    · rw [e, h.gz (n + 1) (by omega)]; have := h.gen0; omega
    · exact h.g0 k h1 (by omega)
  · by_cases e : k' = n + 1
    · exact .inl (by rw [e]; exact h.gz _ (by omega))
    · exact h.ord k k' h1 h2 (by omega)
  · by_cases e : k = n + 1
    · have e2 : putC C (n + 1) c k = c := if_pos e
      rw [e2, h.tz k (by omega)]
      have := h.la0 c hc
      constructor
      · intro e3; cases e3
      · intro e3; omega
    · rw [hp k (by omega)]; exact h.tl k h1 (by omega)
theorem fT_add (h : ON n gen C g t la) (c i : Nat) : fT (putC C (n + 1) c) g t (n + 1) i = if i = c then fT C g t n i ++ [((((n + 1) * 4 + c : Nat) : Int), 0)] else fT C g t n i := by
  have hp : ∀ k, k ≤ n → putC C (n + 1) c k = C k := fun k hk => if_neg (by omega)
  have hpn : putC C (n + 1) c (n + 1) = c := if_pos rfl
  have e1 : (ksN n).filter (fun k => decide (putC C (n + 1) c k = i) && !t k) = waitN C t n i := by
    unfold waitN
    apply List.filter_congr
    intro k hk
    rw [hp k (ksN_mem.1 hk).2]
  have e2 : (waitN C t n i).map (fun k => (encK (putC C (n + 1) c) k, g k)) = fT C g t n i := by
    unfold fT
    apply List.map_congr_left
    intro k hk
    have := (waitN_mem.1 hk).1.2
    unfold encK
    rw [hp k this]
  unfold fT
  show List.map _ (List.filter _ (ksN (n + 1))) = _
  rw [ksN_succ, List.filter_append, e1, List.map_append, e2]
  have ht := h.tz (n + 1) (by omega)
  have hg := h.gz (n + 1) (by omega)
  by_cases e : i = c
  · subst e
    rw [if_pos rfl]
    simp [hpn, ht, hg, encK]
    rfl
  · rw [if_neg e]
    have e' : ¬ c = i := fun h => e h.symm
    simp [hpn, e']
    rfl

/-- All that have none get a generation. -/
def giveG (n : Nat) (gen : Int) (g : Nat → Int) : Nat → Int := fun k => if 1 ≤ k ∧ k ≤ n ∧ g k = 0 then gen else g k
theorem ON.close (h : ON n gen C g t la) (hn : gen < (n : Int)) : ON n (gen + 1) C (giveG n (gen + 1) g) t la := by
  have hg0 := h.gen0
  have hv : ∀ k, 1 ≤ k → k ≤ n → (g k = 0 ∧ giveG n (gen + 1) g k = gen + 1) ∨ (g k ≠ 0 ∧ giveG n (gen + 1) g k = g k) := fun k h1 h2 => by
    unfold giveG
    by_cases e : g k = 0
    · exact .inl ⟨e, if_pos ⟨h1, h2, e⟩⟩
    · exact .inr ⟨e, if_neg (fun q => e q.2.2)⟩
  refine ⟨h.c4, fun k h1 h2 => ?_, fun k hk => by unfold giveG; rw [if_neg (by omega)]; exact h.gz k hk, fun k k' h1 h2 h3 => ?_, h.tl, h.tz, h.la0, by omega, by omega⟩
  · have := h.g0 k h1 h2
    rcases hv k h1 h2 with ⟨e1, e2⟩ | ⟨e1, e2⟩ <;> rw [e2] <;> omega
  · have g1 := h.g0 k h1 (by omega)
    have g2 := h.g0 k' (by omega) h3
    have o := h.ord k k' h1 h2 h3
    rcases hv k h1 (by omega) with ⟨e1, e2⟩ | ⟨e1, e2⟩ <;> rcases hv k' (by omega) h3 with ⟨f1, f2⟩ | ⟨f1, f2⟩ <;> rw [e2, f2] <;> omega
theorem fT_close (c : Nat) : (fT C g t n c).map (giveT gen) = fT C (giveG n gen g) t n c := by
  unfold fT
  rw [List.map_map]
  apply List.map_congr_left
  intro k hk
  have h1 := (waitN_mem.1 hk).1
  show giveT gen (encK C k, g k) = (encK C k, giveG n gen g k)
  unfold giveT giveG
  by_cases e : g k = 0
  · rw [if_pos e, if_pos ⟨h1.1, h1.2, e⟩]
  · rw [if_neg e, if_neg (fun q => e q.2.2)]

theorem fT_ord (h : ON n gen C g t la) (c : Nat) : OrdT (fT C g t n c) := by
  unfold OrdT fT
  rw [List.pairwise_map]
  refine List.Pairwise.imp_of_mem (fun {a b} ha hb hab => ?_) ((ksN_lt n).filter _)
  exact h.ord a b (waitN_mem.1 ha).1.1 hab (waitN_mem.1 hb).1.2

/-- Is it done? -/
def doneK (p : Int) (g : Nat → Int) (k : Nat) : Bool := decide (1 ≤ g k ∧ g k ≤ p)
/-- Who is told now: by CPU, and there in their order. -/
def toldN (p : Int) (C : Nat → Nat) (g : Nat → Int) (t : Nat → Bool) (n : Nat) : List Nat := (List.range 4).flatMap fun c => (waitN C t n c).filter (doneK p g)
theorem toldN_mem (h : ON n gen C g t la) {p : Int} {k : Nat} : k ∈ toldN p C g t n ↔ (1 ≤ k ∧ k ≤ n) ∧ t k = false ∧ (1 ≤ g k ∧ g k ≤ p) := by
  unfold toldN
  simp only [List.mem_flatMap, List.mem_range, List.mem_filter, waitN_mem, doneK, decide_eq_true_eq]
  constructor
  · rintro ⟨c, _, ⟨⟨h1, _, h3⟩, h4⟩⟩
    exact ⟨h1, h3, h4⟩
  · rintro ⟨h1, h3, h4⟩
    exact ⟨C k, h.c4 k, ⟨h1, rfl, h3⟩, h4⟩
theorem outN_told (h : ON n gen C g t la) (p : Int) : outN p (fT C g t n) 4 = (toldN p C g t n).map (encK C) := by
  unfold outN toldN
  rw [List.map_flatMap]
  congr 1
  funext c
  rw [(ord_while (fT_ord h c) p).1]
  unfold fT
  rw [List.filter_map, List.map_map]
  rfl
/-- The order in which they are told. -/
def Rk (C : Nat → Nat) (a b : Nat) : Prop := C a < C b ∨ (C a = C b ∧ a < b)
theorem toldN_ord (p : Int) : (toldN p C g t n).Pairwise (Rk C) := by
  unfold toldN
  rw [List.pairwise_flatMap]
  constructor
  · intro c _
    refine List.Pairwise.imp_of_mem (fun {a b} ha hb hab => .inr ⟨?_, hab⟩) (((ksN_lt n).filter _).filter _)
    have h1 := (waitN_mem.1 (List.mem_filter.1 ha).1).2.1
    have h2 := (waitN_mem.1 (List.mem_filter.1 hb).1).2.1
    rw [h1, h2]
  · refine List.Pairwise.imp (fun {c d} hcd => ?_) (List.pairwise_lt_range (n := 4))
    intro a ha b hb
    have h1 := (waitN_mem.1 (List.mem_filter.1 ha).1).2.1
    have h2 := (waitN_mem.1 (List.mem_filter.1 hb).1).2.1
    exact .inl (by omega)
theorem told_before {L : List Nat} {R : Nat → Nat → Prop} (hL : L.Pairwise R) (has : ∀ a b, R a b → ¬ R b a) {j k k' : Nat} (hk : L[j]? = some k) (hm : k' ∈ L) (hr : R k' k) : k' ∈ L.take j := by
  obtain ⟨hj, rfl⟩ := List.getElem?_eq_some_iff.1 hk
  rw [← List.take_append_drop j L] at hm
  rcases List.mem_append.1 hm with h | h
  · exact h
  · exfalso
    rw [List.drop_eq_getElem_cons hj] at h
    have hp : (L.drop j).Pairwise R := hL.sublist (List.drop_sublist j L)
    rw [List.drop_eq_getElem_cons hj] at hp
    rcases List.mem_cons.1 h with e | h2
    · rw [e] at hr; exact has _ _ hr hr
    · exact has _ _ ((List.pairwise_cons.1 hp).1 k' h2) hr
theorem told_not {L : List Nat} {R : Nat → Nat → Prop} (hL : L.Pairwise R) {j k k' : Nat} (hk : L[j]? = some k) (hm : k' ∈ L.take j) : R k' k := by
  obtain ⟨hj, rfl⟩ := List.getElem?_eq_some_iff.1 hk
  have e : L = L.take j ++ L[j] :: L.drop (j + 1) := by rw [← List.drop_eq_getElem_cons hj, List.take_append_drop]
  have hp := hL
  rw [e, List.pairwise_append] at hp
  exact hp.2.2 k' hm _ List.mem_cons_self

/-- While those are told: what holds behind j of them. -/
def tJ (p : Int) (C : Nat → Nat) (g : Nat → Int) (t : Nat → Bool) (n j : Nat) : Nat → Bool := fun k => t k || decide (k ∈ (toldN p C g t n).take j)
theorem tJ_zero (p : Int) : tJ p C g t n 0 = t := by funext k; simp [tJ]
/-- One more is told: it is one that waits, and none behind it on its CPU was told. -/
theorem told_step (h : ON n gen C g t la) {p : Int} {j k : Nat} {lj : Nat → Int} (hk : (toldN p C g t n)[j]? = some k) (hj : ∀ i, 1 ≤ i → i ≤ n → (tJ p C g t n j i = true ↔ (i : Int) ≤ lj (C i))) :
    ((1 ≤ k ∧ k ≤ n) ∧ (1 ≤ g k ∧ g k ≤ p) ∧ tJ p C g t n j k = false ∧ lj (C k) < (k : Int)) ∧
    tJ p C g t n (j + 1) = (fun i => if i = k then true else tJ p C g t n j i) ∧
    ∀ i, 1 ≤ i → i ≤ n → (tJ p C g t n (j + 1) i = true ↔ (i : Int) ≤ (if C i = C k then (k : Int) else lj (C i))) := by
  have hL : (toldN p C g t n).Pairwise (Rk C) := toldN_ord p
  have has : ∀ a b, Rk C a b → ¬ Rk C b a := fun a b h1 h2 => by unfold Rk at h1 h2; omega
  have hmem := (toldN_mem h).1 (List.mem_of_getElem? hk)
  have hnot : k ∉ (toldN p C g t n).take j := fun hm => by
    have := told_not hL hk hm
    unfold Rk at this; omega
  have htk : tJ p C g t n j k = false := by unfold tJ; rw [hmem.2.1, decide_eq_false hnot]; rfl
  have hstep : tJ p C g t n (j + 1) = (fun i => if i = k then true else tJ p C g t n j i) := by
    funext i
    unfold tJ
    rw [List.take_add_one, hk]
    by_cases e : i = k
    · subst e; simp
    · rw [if_neg e]; simp [e]
  have hlt : lj (C k) < (k : Int) := by
    have h3 : ¬ (k : Int) ≤ lj (C k) := fun hle => by
      have := (hj k hmem.1.1 hmem.1.2).2 hle
      rw [htk] at this
      cases this
    omega
  refine ⟨⟨hmem.1, hmem.2.2, htk, hlt⟩, hstep, fun i h1 h2 => ?_⟩
  rw [hstep]
  show (if i = k then true else tJ p C g t n j i) = true ↔ _
  by_cases e : i = k
  · subst e
    rw [if_pos rfl, if_pos rfl]
    simp
  · rw [if_neg e]
    by_cases ec : C i = C k
    · rw [if_pos ec]
      constructor
      · intro ht
        have := (hj i h1 h2).1 ht
        rw [ec] at this
        omega
      · intro hik
        have hik' : i < k := by omega
        unfold tJ
        cases hti : t i with
        | true => rfl
        | false =>
          have hgi := h.ord i k h1 hik' hmem.1.2
          have hin : i ∈ toldN p C g t n := (toldN_mem h).2 ⟨⟨h1, h2⟩, hti, by omega⟩
          have := told_before hL has hk hin (.inr ⟨ec, hik'⟩)
          simp [this]
    · rw [if_neg ec]; exact hj i h1 h2
/-- When all are told. -/
theorem told_all (h : ON n gen C g t la) {p : Int} {lj : Nat → Int} (hl : ∀ c, c < 4 → 0 ≤ lj c ∧ lj c ≤ (n : Int)) (hj : ∀ i, 1 ≤ i → i ≤ n → (tJ p C g t n (toldN p C g t n).length i = true ↔ (i : Int) ≤ lj (C i))) :
    ON n gen C g (tJ p C g t n (toldN p C g t n).length) lj ∧
    (fun c => (fT C g t n c).dropWhile (up p)) = fT C g (tJ p C g t n (toldN p C g t n).length) n ∧
    ∀ k, 1 ≤ k → k ≤ n → 0 < g k → g k ≤ p → tJ p C g t n (toldN p C g t n).length k = true := by
  have hall : ∀ k, tJ p C g t n (toldN p C g t n).length k = (t k || decide (k ∈ toldN p C g t n)) := fun k => by unfold tJ; rw [List.take_length]
  refine ⟨⟨h.c4, h.g0, h.gz, h.ord, hj, fun k hk => ?_, hl, h.gen0⟩, ?_, fun k h1 h2 h3 h4 => ?_⟩
  · rw [hall, h.tz k hk, decide_eq_false (fun hm => by have := ((toldN_mem h).1 hm).1; omega)]; rfl
  · funext c
    rw [(ord_while (fT_ord h c) p).2]
    unfold fT
    rw [List.filter_map]
    congr 1
    unfold waitN
    rw [List.filter_filter]
    apply List.filter_congr
    intro k hk
    have hk' := ksN_mem.1 hk
    rw [hall]
    have e : decide (k ∈ toldN p C g t n) = (!t k && decide (1 ≤ g k ∧ g k ≤ p)) := by
      rw [Bool.eq_iff_iff]
      simp only [decide_eq_true_eq, Bool.and_eq_true, Bool.not_eq_true', toldN_mem h]
      constructor
      · rintro ⟨_, h2, h3⟩; exact ⟨h2, h3⟩
      · rintro ⟨h2, h3⟩; exact ⟨hk', h2, h3⟩
    rw [e]
    show (!decide (1 ≤ g k ∧ g k ≤ p) && (decide (C k = c) && !t k)) = (decide (C k = c) && !(t k || (!t k && decide (1 ≤ g k ∧ g k ≤ p))))
    cases t k <;> cases decide (C k = c) <;> cases decide (1 ≤ g k ∧ g k ≤ p) <;> rfl
  · rw [hall]
    cases ht : t k with
    | true => rfl
    | false =>
      have : k ∈ toldN p C g t n := (toldN_mem h).2 ⟨⟨h1, h2⟩, ht, by omega⟩
      simp [this]
theorem toldN_len (_ : ON n gen C g t la) (p : Int) : (toldN p C g t n).length ≤ 4 * n := by
  have h1 : ∀ k : Nat, ((List.range k).flatMap fun c => (waitN C t n c).filter (doneK p g)).length ≤ k * n := by
    intro k
    induction k with
    | zero => simp
    | succ k ih =>
      rw [List.range_succ, List.flatMap_append, List.length_append]
      have h2 : ((waitN C t n k).filter (doneK p g)).length ≤ n := by
        refine Nat.le_trans (List.length_filter_le _ _) ?_
        have := fT_len C g t n k
        unfold fT at this
        rwa [List.length_map] at this
      simp only [List.flatMap_cons, List.flatMap_nil, List.append_nil]
      rw [Nat.succ_mul]
      omega
  exact h1 4
end
end Go.Proofs.Ytnnliimjemmekaa

/-
  Lists in memory: their blocks, the ring of each CPU; has, Of.
-/
import Derived.Maps.RangeWalk
import Derived.Test.YtnnliimjemmekaaRgG
namespace Go.Proofs.Ytnnliimjemmekaa
open Go.RowKit Go.Shelf
open rC (Th RL flat tv)

attribute [local go_sem] Oper.semAt_some

/-- Lists that lie in the blocks from base up to top: A (their parts), G (the rows), for each CPU i the ring in R i and Q i, which holds f i. -/
structure CL (w : World) (base top A G n : Nat) (last : Int) (R Q : Nat → Nat) (f : Nat → List Th) : Prop where
  n1 : 1 ≤ n
  n64 : n ≤ 64
  c0 : w.cell? ⟨A, 0, none⟩ = some (.slice (some ⟨G, 0, none⟩) n n)
  c1 : w.cell? ⟨A, 1, none⟩ = some (.int .i64 last)
  f1 : w.frozen? ⟨A, 1, none⟩ = false
  row : ∀ i, i < n → w.cell? ⟨G, i, none⟩ = some (.pointer (some ⟨R i, 0, none⟩))
  ring : ∀ i, i < n → RL w (R i) (Q i) 64 (f i)
  gl : base ≤ G
  ga : G < A
  aq : ∀ i, i < n → A < Q i
  qr : ∀ i, i < n → Q i < R i
  mono : ∀ i j, i < j → j < n → R i < Q j
  rt : ∀ i, i < n → R i < top
  hi : top ≤ w.heap.size

def updF (f : Nat → List Th) (c : Nat) (l : List Th) : Nat → List Th := fun i => if i = c then l else f i
theorem updF_same (f : Nat → List Th) (c : Nat) (l : List Th) : updF f c l c = l := if_pos rfl
theorem updF_other (f : Nat → List Th) {c i : Nat} (h : i ≠ c) (l : List Th) : updF f c l i = f i := if_neg h
theorem updF_twice (f : Nat → List Th) (c : Nat) (l m : List Th) : updF (updF f c l) c m = updF f c m := by
  funext i
  unfold updF
  split <;> rfl
theorem updF_id (f : Nat → List Th) (c : Nat) : updF f c (f c) = f := by
  funext i
  unfold updF
  split
  · rename_i e; rw [e]
  · rfl

section
variable {w w' : World} {base top A G n : Nat} {last : Int} {R Q : Nat → Nat} {f : Nat → List Th}
/-- The lists' own blocks. -/
abbrev Own (base top : Nat) : Nat → Prop := fun k => base ≤ k ∧ k < top
theorem CL.inA (h : CL w base top A G n last R Q f) : Own base top A := by
  have h1 := h.n1
  have := h.aq 0 (by omega)
  have := h.qr 0 (by omega)
  have := h.rt 0 (by omega)
  have := h.gl
  have := h.ga
  exact ⟨by omega, by omega⟩
theorem CL.inG (h : CL w base top A G n last R Q f) : Own base top G := by
  have h1 := h.inA.2
  have := h.gl
  have := h.ga
  exact ⟨by omega, by omega⟩
theorem CL.inQ (h : CL w base top A G n last R Q f) {i : Nat} (hi : i < n) : Own base top (Q i) := by
  have := h.aq i hi
  have := h.qr i hi
  have := h.rt i hi
  have := h.gl
  have := h.ga
  exact ⟨by omega, by omega⟩
theorem CL.inR (h : CL w base top A G n last R Q f) {i : Nat} (hi : i < n) : Own base top (R i) := by
  have := (h.inQ hi).1
  have := h.qr i hi
  have := h.rt i hi
  exact ⟨by omega, by omega⟩
theorem CL.same (h : CL w base top A G n last R Q f) (hs : ∀ k, Own base top k → w'.heap[k]? = w.heap[k]?) (hsz : top ≤ w'.heap.size) : CL w' base top A G n last R Q f :=
  have c : ∀ k o, Own base top k → w'.cell? ⟨k, o, none⟩ = w.cell? ⟨k, o, none⟩ := fun k o hk => World.cell?_of_block (a := ⟨k, o, none⟩) (hs k hk)
  ⟨h.n1, h.n64, (c _ _ h.inA).trans h.c0, (c _ _ h.inA).trans h.c1, (World.frozen?_of_block (a := ⟨A, 1, none⟩) (hs A h.inA)).trans h.f1,
    fun i hi => (c _ _ h.inG).trans (h.row i hi), fun i hi => (h.ring i hi).same (hs _ (h.inR hi)) (hs _ (h.inQ hi)), h.gl, h.ga, h.aq, h.qr, h.mono, h.rt, hsz⟩
theorem CL.chP {T : Nat → Prop} (h : CL w base top A G n last R Q f) (hc : ChP T w w') (hT : ∀ k, T k → ¬ Own base top k) : CL w' base top A G n last R Q f :=
  h.same (fun k hk => hc.block k (Nat.lt_of_lt_of_le hk.2 h.hi) (fun ht => hT k ht hk)) (Nat.le_trans h.hi hc.size)
theorem CL.quiet (h : CL w base top A G n last R Q f) (hc : Ch [] w w') : CL w' base top A G n last R Q f := h.chP (T := fun _ => False) (.quiet hc) (fun _ e => e.elim)
theorem CL.below (h : CL w base top A G n last R Q f) (hc : Below w.heap.size w w') : CL w' base top A G n last R Q f := h.quiet (.of_below hc)
theorem CL.keep {S : Nat → Prop} (h : CL w base top A G n last R Q f) (hk : Keep S w w') (hS : ∀ k, Own base top k → S k) (hsz : top ≤ w'.heap.size) : CL w' base top A G n last R Q f :=
  ⟨h.n1, h.n64, hk.cell (hS _ h.inA) h.c0, hk.cell (hS _ h.inA) h.c1, (World.frozen?_of_block (a := ⟨A, 1, none⟩) (hk.same (hS _ h.inA) h.c0)).trans h.f1,
    fun i hi => hk.cell (hS _ h.inG) (h.row i hi), fun i hi => (h.ring i hi).keep hk (hS _ (h.inR hi)) (hS _ (h.inQ hi)), h.gl, h.ga, h.aq, h.qr, h.mono, h.rt, hsz⟩
/-- One CPU's ring turned. -/
theorem CL.step {c : Nat} (h : CL w base top A G n last R Q f) (hc : c < n) {l : List Th} (hr : RL w' (R c) (Q c) 64 l) (hch : Ch [R c, Q c] w w') : CL w' base top A G n last R Q (updF f c l) := by
  have hQ := h.aq c hc
  have hR := h.qr c hc
  have hga := h.ga
  have nA : A ∉ [R c, Q c] := by simp; omega
  have nG : G ∉ [R c, Q c] := by simp; omega
  have lA := Nat.lt_of_lt_of_le h.inA.2 h.hi
  have lG := Nat.lt_of_lt_of_le h.inG.2 h.hi
  refine ⟨h.n1, h.n64, (hch.cell (p := ⟨A, 0, none⟩) lA nA).trans h.c0, (hch.cell (p := ⟨A, 1, none⟩) lA nA).trans h.c1, (hch.frozen (p := ⟨A, 1, none⟩) lA nA).trans h.f1,
    fun i hi => (hch.cell (p := ⟨G, i, none⟩) lG nG).trans (h.row i hi), fun i hi => ?_, h.gl, h.ga, h.aq, h.qr, h.mono, h.rt, Nat.le_trans h.hi hch.size⟩
  by_cases e : i = c
  · subst e
    rw [updF_same]
    exact hr
  · rw [updF_other f e]
    have h1 := h.qr i hi
    have h2 : R i ∉ [R c, Q c] ∧ Q i ∉ [R c, Q c] := by
      rcases Nat.lt_or_ge i c with h3 | h3
      · have := h.mono i c h3 hc
        simp; omega
      · have := h.mono c i (by omega) hi
        simp; omega
    exact (h.ring i hi).ch hch h2.1 h2.2
/-- What a ring's call turned is the lists' own. -/
theorem CL.own {c : Nat} (h : CL w base top A G n last R Q f) (hc : c < n) {a b : World} (hch : Ch [R c, Q c] a b) : ChP (Own base top) a b :=
  .of hch (fun k hk => by
    simp at hk
    rcases hk with rfl | rfl
    · exact h.inR hc
    · exact h.inQ hc)

theorem has_in (h : CL w base top A G n last R Q f) {c : Nat} (hc : c < n) :
    Calls Try.prog 23 #[.pointer (some ⟨A, 0, none⟩), .int .i64 (c : Int)] w fun e w' => e = .returned (.bool true) ∧ w = w' := by
  have c0 := h.c0
  have hlt : (c : Int) < (n : Int) := by omega
  have h0 : (0 : Int) ≤ (c : Int) := by omega
  clear h hc
  go_enter Try.func23, Try.ntmps23
  go_wp2
  go_ret
  exact ⟨rfl, rfl⟩
theorem has_out (h : CL w base top A G n last R Q f) {i : Int} (hi : i < 0 ∨ (n : Int) ≤ i) :
    Calls Try.prog 23 #[.pointer (some ⟨A, 0, none⟩), .int .i64 i] w fun e w' => e = .returned (.bool false) ∧ w = w' := by
  have c0 := h.c0
  clear h
  rcases Int.lt_or_le i 0 with h0 | h0
  · have hge : decide (0 ≤ i) = false := decide_eq_false (by omega)
    clear hi
    go_enter Try.func23, Try.ntmps23
    go_wp2
    go_ret
    exact ⟨rfl, rfl⟩
  · have hlt : decide (i < (n : Int)) = false := decide_eq_false (by omega)
    clear hi
    go_enter Try.func23, Try.ntmps23
    go_wp2
    go_ret
    exact ⟨rfl, rfl⟩
theorem has_nil (i : Int) (w : World) :
    Calls Try.prog 23 #[.pointer none, .int .i64 i] w fun e w' => e = .returned (.bool false) ∧ w = w' := by
  go_enter Try.func23, Try.ntmps23
  go_wp2
  go_ret
  exact ⟨rfl, rfl⟩

theorem of_in (h : CL w base top A G n last R Q f) {c : Nat} (hc : c < n) :
    Calls Try.prog 19 #[.pointer (some ⟨A, 0, none⟩), .int .i64 (c : Int)] w fun e w' => ∃ v, e = .returned v ∧ w'.ownsRow w.heap.size 51 2 v (f c).length (flat (f c)) ∧ Below w.heap.size w w' := by
  have HH := Lib.hid (has_in h hc)
  have HL := Lib.hid (rC.list_l (h.ring c hc))
  have c0 := h.c0
  have cr := h.row c hc
  have hlt : (c : Int) < (n : Int) := by omega
  clear h hc
  go_enter Try.func19, Try.ntmps19
  go_wp2_with (first | (go_at_call 23; with_reducible refine HH.out.mono ?_; rintro e w' ⟨rfl, rfl⟩) | fail)
  with_reducible refine HL.out.mono ?_
  rintro e w' ⟨v, rfl, hrow, hB⟩
  go_frame
  go_wp2
  go_ret
  exact ⟨v, rfl, hrow, hB⟩
theorem of_out (h : CL w base top A G n last R Q f) {i : Int} (hi : i < 0 ∨ (n : Int) ≤ i) :
    Calls Try.prog 19 #[.pointer (some ⟨A, 0, none⟩), .int .i64 i] w fun e w' => e = .returned (.slice none 0 0) ∧ w = w' := by
  have HH := Lib.hid (has_out h hi)
  clear h hi
  go_enter Try.func19, Try.ntmps19
  go_wp2_with (with_reducible refine HH.out.mono ?_; rintro e w' ⟨rfl, rfl⟩)
  go_ret
  exact ⟨rfl, rfl⟩
theorem of_nil (i : Int) (w : World) :
    Calls Try.prog 19 #[.pointer none, .int .i64 i] w fun e w' => e = .returned (.slice none 0 0) ∧ w = w' := by
  go_enter Try.func19, Try.ntmps19
  go_wp2_with (with_reducible refine (has_nil i _).mono ?_; rintro e w' ⟨rfl, rfl⟩)
  go_ret
  exact ⟨rfl, rfl⟩
end
end Go.Proofs.Ytnnliimjemmekaa

/-
  Counts by keys beside the document's answer: what stands between the calls, and each call's step.
-/
import Derived.Test.YtbjlkmmijdhgoaaCoRE
import Derived.Test.YtbjlkmmijdhgoaaCIK
import Derived.Test.YtbjlkmmijdhgoaaCIG
namespace Go.Proofs.Ytbjlkmmijdhgoaa
open Go.RowKit cI

attribute [local go_sem] Oper.semAt_some

/-- What turned were blocks of the call's own. -/
theorem ch_fresh {S : List Nat} {a w w' : World} (h : Ch [] a w) (hc : Ch S w w') (hS : ∀ k ∈ S, a.heap.size ≤ k) : Ch [] a w' :=
  ⟨hc.os.trans h.os, hc.tape.trans h.tape, hc.output.trans h.output, Nat.le_trans h.size hc.size, fun k hk hn => (hc.block k (Nat.lt_of_lt_of_le hk h.size) (fun hm => by have := hS k hm; omega)).trans (h.block k hk hn)⟩

/-- Between the calls: the answer's list (its row from T on), the counts in memory, and that they lie apart. -/
structure KS (w W : World) (S R top T : Nat) (v : Value) (L : List Ent) : Prop where
  m : RK W T v top (L.map ct)
  r : RF W R S top L
  s : Srt (L.map ct)
  c : Ch [] w W
  d : ∀ x ∈ S :: blocks L, some x ≠ v.ownBlock
  b : ∀ x ∈ S :: blocks L, w.heap.size ≤ x
  t : T ≤ W.heap.size
theorem KS.quiet {w W W' : World} {S R top T : Nat} {v : Value} {L : List Ent} (h : KS w W S R top T v L) (hc : Ch [] W W') : KS w W' S R top T v L :=
  ⟨h.m.quiet hc, h.r.quiet hc, h.s, h.c.trans hc, h.d, h.b, Nat.le_trans h.t hc.size⟩
theorem KS.ok {w W : World} {S R top T : Nat} {v : Value} {L : List Ent} (h : KS w W S R top T v L) : ∀ x ∈ L.map ct, okC top x := by
  intro x hx
  obtain ⟨e, he, rfl⟩ := List.mem_map.1 hx
  have := h.r.cnt e he
  exact ⟨this.2.1, this.1.hn, this.1.hs⟩
theorem KS.len {w W : World} {S R top T : Nat} {v : Value} {L : List Ent} (h : KS w W S R top T v L) : (L.map ct).length ≤ 64 := by rw [List.length_map]; exact h.r.hl

/-- Behind the answer's call: its new list, the counts as they were. -/
structure KM (w W : World) (S R top T : Nat) (v : Value) (ms : List (Ct Int)) (L : List Ent) : Prop where
  m : RK W T v top ms
  r : RF W R S top L
  s : Srt ms
  c : Ch [] w W
  d : ∀ x ∈ S :: blocks L, some x ≠ v.ownBlock
  b : ∀ x ∈ S :: blocks L, w.heap.size ≤ x
  t : T ≤ W.heap.size
theorem KM.quiet {w W W' : World} {S R top T : Nat} {v : Value} {m : List (Ct Int)} {L : List Ent} (h : KM w W S R top T v m L) (hc : Ch [] W W') : KM w W' S R top T v m L :=
  ⟨h.m.quiet hc, h.r.quiet hc, h.s, h.c.trans hc, h.d, h.b, Nat.le_trans h.t hc.size⟩
theorem lies_apart {w W : World} {S R top T : Nat} {v v' : Value} {L : List Ent} (h : KS w W S R top T v L) (hv : Lies W v v') : ∀ x ∈ S :: blocks L, some x ≠ v'.ownBlock := by
  rcases hv with rfl | hv
  · exact h.d
  · intro x hx e
    have hb := hv x e.symm
    rcases List.mem_cons.1 hx with rfl | hx
    · obtain ⟨D, ho, _⟩ := h.r.own
      have := ho.lt
      omega
    · obtain ⟨y, hy, rfl⟩ := List.mem_map.1 hx
      have := (h.r.cnt y hy).1.lt
      omega

theorem kh_answer {w W : World} {S R top T : Nat} {v : Value} {L : List Ent} (h : KS w W S R top T v L) (k : Int) :
    Calls Try.prog 19 #[v, .int .i64 k, .int .i64 (top : Int)] W fun e W' => ∃ v' m', e = .returned (.tuple #[v', .int .i64 (holdC top (L.map ct) k).2]) ∧ (holdC top (L.map ct) k).1.Perm m' ∧ KM w W' S R top T v' m' L ∧ Ch [] W W' := by
  refine (rhold_any k h.m h.t h.s h.len h.r.ht.2 h.ok).mono ?_
  rintro e W' ⟨v', m', rfl, hp, hs, hm, hc, hv⟩
  exact ⟨v', m', rfl, hp, ⟨hm, h.r.quiet hc, hs, h.c.trans hc, lies_apart h hv, h.b, Nat.le_trans h.t hc.size⟩, hc⟩
theorem kd_answer {w W : World} {S R top T : Nat} {v : Value} {L : List Ent} (h : KS w W S R top T v L) (k : Int) :
    Calls Try.prog 21 #[v, .int .i64 k] W fun e W' => ∃ v', e = .returned (.tuple #[v', .bool (dropC (L.map ct) k).2.1, .int .i64 (dropC (L.map ct) k).2.2]) ∧ KM w W' S R top T v' (dropC (L.map ct) k).1 L ∧ Ch [] W W' := by
  refine (rdrop_any k h.m h.t h.s h.len h.r.ht.2 h.ok).mono ?_
  rintro e W' ⟨v', rfl, hs, hm, hc, hv⟩
  exact ⟨v', rfl, ⟨hm, h.r.quiet hc, hs, h.c.trans hc, lies_apart h hv, h.b, Nat.le_trans h.t hc.size⟩, hc⟩

theorem kh_call {w W : World} {S R top T : Nat} {v : Value} {m : List (Ct Int)} {L : List Ent} (h : KM w W S R top T v m L) {k : Int} (hk : wfK k) (hp : (holdC top (L.map ct) k).1.Perm m) (X cap : Nat) (hX : W.cell? ⟨X, 0, none⟩ = some (kv k)) (hM : X ∉ S :: blocks L) :
    Calls Try.prog 20 #[.pointer (some ⟨R, 0, none⟩), .slice (some ⟨X, 0, none⟩) 1 cap] W fun e W' => e = .returned (.int .i64 (holdC top (L.map ct) k).2) ∧ ∃ L', KS w W' S R top T v L' := by
  refine (hold_this h.r hk X cap hX hM).mono ?_
  rintro e W' ⟨rfl, L1, hr⟩
  obtain ⟨L', hp2, he⟩ := perm_map ct m L1 (by rw [hr.c]; exact hp)
  have hbl : ∀ x ∈ blocks L', x ∈ blocks L ∨ W.heap.size ≤ x := fun x hx => hr.bl x ((hp2.map (·.b)).mem_iff.2 hx)
  refine ⟨rfl, L', by rw [he]; exact h.m.apart hr.ch h.d, hr.rf.perm hp2, by rw [he]; exact h.s, ch_fresh h.c hr.ch h.b, fun x hx e => ?_, fun x hx => ?_, Nat.le_trans h.t hr.ch.size⟩
  · rcases List.mem_cons.1 hx with rfl | hx
    · exact h.d x (by simp) e
    · rcases hbl x hx with h1 | h1
      · exact h.d x (List.mem_cons_of_mem _ h1) e
      · have := (World.ownsRow.lt h.m x e.symm).2
        omega
  · rcases List.mem_cons.1 hx with rfl | hx
    · exact h.b x (by simp)
    · rcases hbl x hx with h1 | h1
      · exact h.b x (List.mem_cons_of_mem _ h1)
      · exact Nat.le_trans h.c.size h1
theorem kd_call {w W : World} {S R top T : Nat} {v : Value} {L : List Ent} {k : Int} (h : KM w W S R top T v (dropC (L.map ct) k).1 L) (hk : wfK k) :
    Calls Try.prog 22 #[.pointer (some ⟨R, 0, none⟩), kv k] W fun e W' => e = .returned (.tuple #[.bool (dropC (L.map ct) k).2.1, .int .i64 (dropC (L.map ct) k).2.2]) ∧ ∃ L', KS w W' S R top T v L' := by
  refine (drop_any h.r hk).mono ?_
  rintro e W' ⟨rfl, L', he, hr, hc, hb⟩
  refine ⟨rfl, L', by rw [he]; exact h.m.apart hc h.d, hr, by rw [he]; exact h.s, ch_fresh h.c hc h.b, fun x hx => ?_, fun x hx => ?_, Nat.le_trans h.t hc.size⟩
  · rcases List.mem_cons.1 hx with rfl | hx
    · exact h.d x (by simp)
    · exact h.d x (List.mem_cons_of_mem _ (hb x hx))
  · rcases List.mem_cons.1 hx with rfl | hx
    · exact h.b x (by simp)
    · exact h.b x (List.mem_cons_of_mem _ (hb x hx))

/-- Keys, beside the answer's list: the same keys in the same order. -/
theorem k_keys {w W : World} {S R top T : Nat} {v : Value} {L : List Ent} (h : KS w W S R top T v L) :
    Calls Try.prog 23 #[.pointer (some ⟨R, 0, none⟩)] W fun e W' => ∃ g cap, e = .returned (.slice (some ⟨g, 0, none⟩) L.length cap) ∧ KS w W' S R top T v L ∧ ∀ j x, L[j]? = some x → W'.cell? ⟨g, j, none⟩ = some (.int .i64 x.k) := by
  refine (keys_any h.r).mono ?_
  rintro e W' ⟨g, cap, ss, rfl, hp, hs, hrow, hb⟩
  have hc := Ch.of_below (S := []) hb
  have hs2 : (L.map (·.k)).Pairwise (fun x y => x ≤ y) := by
    have := h.s
    rw [srt_iff] at this
    have e1 : (L.map ct).map Prod.fst = L.map (·.k) := by simp [List.map_map, Function.comp_def, ct]
    rw [e1] at this
    exact this.imp (fun h => Int.le_of_lt h)
  obtain rfl : ss = L.map (·.k) := List.Perm.eq_of_pairwise (le := fun a b : Int => a ≤ b) (fun a b _ _ h1 h2 => by omega) hs hs2 hp
  rw [List.length_map] at hrow ⊢
  refine ⟨g, cap, rfl, h.quiet hc, fun j x hj => ?_⟩
  have hjl := (List.getElem?_eq_some_iff.1 hj).1
  rw [World.ownsRow.cellAt hrow j (by omega)]
  simp [hj, kv]
end Go.Proofs.Ytbjlkmmijdhgoaa

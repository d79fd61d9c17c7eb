/-
  Counts by keys of int: Drop, whatever there is.
-/
import Derived.Test.YtbjlkmmijdhgoaaCIH
namespace Go.Proofs.Ytbjlkmmijdhgoaa.cI
open Go.RowKit Go.Maps

theorem keys_nodup {w : World} {R M top : Nat} {L : List Ent} (h : RF w R M top L) : (L.map (·.k)).Nodup := by
  obtain ⟨D, _, hv⟩ := h.own
  exact hv.nd
theorem ct_apart {w : World} {R M top : Nat} {A B : List Ent} {e : Ent} (h : RF w R M top (A ++ e :: B)) : ∀ x ∈ A.map ct, x.1 ≠ e.k := by
  intro x hx e1
  obtain ⟨y, hy, rfl⟩ := List.mem_map.1 hx
  have hnd := keys_nodup h
  rw [List.map_append, List.map_cons, List.nodup_append] at hnd
  exact hnd.2.2 y.k (List.mem_map.2 ⟨y, hy, rfl⟩) e.k (by simp) e1

theorem drop_any {w : World} {R M top : Nat} {L : List Ent} (h : RF w R M top L) {k : K} (hk : wfK k) :
    Calls Try.prog 22 #[.pointer (some ⟨R, 0, none⟩), kv k] w fun r w' => r = .returned (.tuple #[.bool (dropC (L.map ct) k).2.1, .int .i64 (dropC (L.map ct) k).2.2]) ∧
      ∃ L', L'.map ct = (dropC (L.map ct) k).1 ∧ RF w' R M top L' ∧ Ch (M :: blocks L) w w' ∧ ∀ x ∈ blocks L', x ∈ blocks L := by
  rcases in_or_not L k with ⟨A, B, e, rfl, rfl⟩ | hno
  · have he := h.cnt e (by simp)
    have hA := ct_apart h
    have e2 : (A ++ e :: B).map ct = A.map ct ++ (e.k, e.n, e.s) :: B.map ct := by simp [ct]
    obtain ⟨n, t, E, hP⟩ : ∃ n t E, putN e.n e.s = (n, t, E) := ⟨_, _, _, rfl⟩
    have e1 := dropC_in (B := B.map ct) hA hP
    rw [e2, e1]
    cases t with
    | false =>
      have hn : 1 ≤ n := by
        unfold putN at hP
        rw [if_neg (by omega)] at hP
        split at hP
        · cases hP; exact he.2.1
        · simp at hP; omega
      refine (drop_keep h hP hn).mono ?_
      rintro r w' ⟨rfl, hr, hc⟩
      exact ⟨rfl, A ++ ⟨e.k, e.b, n, e.s⟩ :: B, by simp [ct], hr, hc.mono (by simp), fun x hx => by simpa [blocks] using hx⟩
    | true =>
      have h0 : n = 0 ∧ E = 0 := by
        unfold putN at hP
        rw [if_neg (by omega)] at hP
        split at hP
        · cases hP
        · simp at hP; omega
      obtain ⟨rfl, rfl⟩ := h0
      refine (drop_out h hP).mono ?_
      rintro r w' ⟨rfl, hr, hc⟩
      refine ⟨rfl, A ++ B, by simp, hr, hc.mono (by simp), fun x hx => ?_⟩
      simp only [blocks, List.map_append, List.map_cons, List.mem_append, List.mem_cons] at hx ⊢
      rcases hx with hx | hx
      · exact .inl hx
      · exact .inr (.inr hx)
  · have hno2 : ∀ x ∈ L.map ct, x.1 ≠ k := fun x hx => by
      obtain ⟨y, hy, rfl⟩ := List.mem_map.1 hx
      exact hno y hy
    rw [dropC_not hno2]
    refine (drop_not h hk hno).mono ?_
    rintro r w' ⟨rfl, hc⟩
    exact ⟨rfl, L, rfl, h.quiet hc, hc.mono (by simp), fun x hx => hx⟩
end Go.Proofs.Ytbjlkmmijdhgoaa.cI

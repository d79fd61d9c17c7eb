/-
  The document's answer for counts by keys: Hold and Drop, whatever there is.
-/
import Derived.Test.YtbjlkmmijdhgoaaCoRD
namespace Go.Proofs.Ytbjlkmmijdhgoaa
open Go.RowKit

def Srt (m : List (Ct Int)) : Prop := m.Pairwise (fun x y => x.1 < y.1)
theorem srt_iff {m : List (Ct Int)} : Srt m ↔ (m.map Prod.fst).Pairwise (· < ·) := by unfold Srt; rw [List.pairwise_map]
theorem split_at {k : Int} : ∀ {m : List (Ct Int)}, Srt m → (∀ x ∈ m, x.1 ≠ k) → ∃ A B, m = A ++ B ∧ (∀ x ∈ A, x.1 < k) ∧ ∀ x ∈ B, k < x.1
  | [], _, _ => ⟨[], [], rfl, by simp, by simp⟩
  | x :: t, hs, hk => by
    obtain ⟨h1, h2⟩ := List.pairwise_cons.1 hs
    have hx := hk x (by simp)
    by_cases hlt : x.1 < k
    · obtain ⟨A, B, rfl, h3, h4⟩ := split_at (m := t) h2 (fun y hy => hk y (by simp [hy]))
      refine ⟨x :: A, B, rfl, fun y hy => ?_, h4⟩
      rcases List.mem_cons.1 hy with rfl | hy
      · exact hlt
      · exact h3 y hy
    · refine ⟨[], x :: t, rfl, by simp, fun y hy => ?_⟩
      rcases List.mem_cons.1 hy with rfl | hy
      · omega
      · have := h1 y hy; omega

theorem rhold_any {w : World} {D top : Nat} {v : Value} {m : List (Ct Int)} (k : Int) (h : RK w D v top m) (hD : D ≤ w.heap.size) (hs : Srt m) (hl : m.length ≤ 64) (ht : top ≤ 65535) (hok : ∀ x ∈ m, okC top x) :
    Calls Try.prog 19 #[v, .int .i64 k, .int .i64 (top : Int)] w fun e w' => ∃ v' m', e = .returned (.tuple #[v', .int .i64 (holdC top m k).2]) ∧ (holdC top m k).1.Perm m' ∧ Srt m' ∧ RK w' D v' top m' ∧ Ch [] w w' ∧ Lies w v v' := by
  rcases ct_or m k with ⟨A, n, s, B, rfl, hA⟩ | hno
  · obtain ⟨n', s', E, hG⟩ : ∃ n' s' E, getN n top s = (n', s', E) := ⟨_, _, _, rfl⟩
    have e1 := holdC_old (top := top) (B := B) hA hG
    rw [e1]
    refine (rhold_in h hD hA hl ht (hok _ (by simp)) hG).mono ?_
    rintro e w' ⟨v', rfl, hr, hc, hv⟩
    refine ⟨v', _, rfl, List.Perm.refl _, ?_, hr, hc, hv⟩
    rw [srt_iff] at hs ⊢
    simpa using hs
  · by_cases h64 : m.length = 64
    · rw [holdC_full hno h64]
      refine (rhold_full h hno h64).mono ?_
      rintro e w' ⟨rfl, rfl⟩
      exact ⟨v, m, rfl, List.Perm.refl _, hs, h, Ch.refl _ _, .inl rfl⟩
    · rw [holdC_new hno (by omega)]
      obtain ⟨A, B, rfl, h1, h2⟩ := split_at hs hno
      refine (rhold_new h hno (by omega) h1 (fun x hx => h2 x (List.mem_of_mem_head? hx))).mono ?_
      rintro e w' ⟨v', rfl, hr, hc⟩
      refine ⟨v', _, rfl, List.perm_middle.symm, ?_, hr.mono hD, hc, .inr (fun b e => (World.ownsRow.lt hr b e).1)⟩
      obtain ⟨p1, p2, p3⟩ := List.pairwise_append.1 hs
      refine List.pairwise_append.2 ⟨p1, List.pairwise_cons.2 ⟨fun y hy => h2 y hy, p2⟩, fun x hx y hy => ?_⟩
      rcases List.mem_cons.1 hy with rfl | hy
      · exact h1 x hx
      · exact p3 x hx y hy

theorem rdrop_any {w : World} {D top : Nat} {v : Value} {m : List (Ct Int)} (k : Int) (h : RK w D v top m) (hD : D ≤ w.heap.size) (hs : Srt m) (hl : m.length ≤ 64) (ht : top ≤ 65535) (hok : ∀ x ∈ m, okC top x) :
    Calls Try.prog 21 #[v, .int .i64 k] w fun e w' => ∃ v', e = .returned (.tuple #[v', .bool (dropC m k).2.1, .int .i64 (dropC m k).2.2]) ∧ Srt (dropC m k).1 ∧ RK w' D v' top (dropC m k).1 ∧ Ch [] w w' ∧ Lies w v v' := by
  rcases ct_or m k with ⟨A, n, s, B, rfl, hA⟩ | hno
  · obtain ⟨n', t, E, hP⟩ : ∃ n' t E, putN n s = (n', t, E) := ⟨_, _, _, rfl⟩
    have e1 := dropC_in (B := B) hA hP
    rw [e1]
    refine (rdrop_in h hA hl ht (hok _ (by simp)) hP).mono ?_
    rintro e w' ⟨v', rfl, hr, hc⟩
    refine ⟨v', rfl, ?_, hr.mono hD, hc, .inr (fun b e => (World.ownsRow.lt hr b e).1)⟩
    rw [srt_iff] at hs ⊢
    cases t with
    | true =>
      have hsub : ((A ++ ((if true = true then [] else [(k, n', s)]) ++ B)).map Prod.fst).Sublist ((A ++ (k, n, s) :: B).map Prod.fst) := by
        simp
      exact hs.sublist hsub
    | false => simpa using hs
  · rw [dropC_not hno]
    refine (rdrop_not h hno hl).mono ?_
    rintro e w' ⟨rfl, rfl⟩
    exact ⟨v, rfl, hs, h, Ch.refl _ _, .inl rfl⟩
end Go.Proofs.Ytbjlkmmijdhgoaa

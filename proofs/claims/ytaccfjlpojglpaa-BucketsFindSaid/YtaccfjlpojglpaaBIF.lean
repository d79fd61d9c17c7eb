/-
  slices.Delete of one entry of a chain of values of int.
-/
import Derived.Deep.RegionLaw
import Derived.Test.YtaccfjlpojglpaaBIE
namespace Go.Proofs.Ytaccfjlpojglpaa.bI
open Go.RowKit Go.Shelf

attribute [local go_sem] Oper.semAt_some

/-- 'clear' of one entry. -/
theorem clear_one (W : World) (g o c : Nat) {cur : Array Value} {t : TypeId} (hg : W.heap[g]? = some (.cells cur t (0, 0))) (hfit : o + 2 ≤ cur.size) (ty : TypeId) :
    (Builtin.clear_ #[79] ty #[.slice (some ⟨g, o, none⟩) 1 c]).run Try.prog W = .ok (.tuple #[]) (W.setCells g o [.int .u64 0, vv v0]) := by
  have hst := run_storeCells_cells (P := Try.prog) g o [.int .u64 0, vv v0] 0 W (fun j hj => by rw [(cell_plain hg _).1, Array.getElem?_eq_getElem (by simp at hj; omega)]; rfl) (fun j _ => (cell_plain hg _).2) (by simp [Value.oneCell'])
  have hz := zeroE
  have hl : (Builtin.zeroCells (Value.agg #[.int .u64 0, vv v0]).cells 1).toList = [.int .u64 0, vv v0] := by
    simp [Builtin.zeroCells, Value.cells, List.range_succ]
  simp only [Nat.add_zero] at hst
  simp [Builtin.clear_, run_underlying uS, hz, hl, hst]

set_option maxRecDepth 100000 in
set_option maxHeartbeats 4000000 in
theorem delete_in {w : World} {S g p q m n cap : Nat} {A B : List E} {e : E} (h : CR w S (.slice (some ⟨g, 0, none⟩) n cap) (A ++ e :: B)) (hp : A.length = p) (hq : B.length = q) (hm : m = p + q) (hn : n = m + 1) (hl : n ≤ 64) :
    Calls Try.prog 38 #[.slice (some ⟨g, 0, none⟩) n cap, .int .i64 (p : Int), .int .i64 ((p : Int) + 1)] w fun r w' => r = .returned (.slice (some ⟨g, 0, none⟩) m cap) ∧ CR w' S (.slice (some ⟨g, 0, none⟩) m cap) (A ++ B) ∧ w.grownBy w' (some g) := by
  have hnl : (A ++ e :: B).length = n := by simp; omega
  obtain ⟨cur, hS, hg, hcap, hnc, hsz, htk⟩ : ∃ cur, S ≤ g ∧ w.heap[g]? = some (.cells cur 78 (0, 0)) ∧ cap ≤ maxLen ∧ n ≤ cap ∧ cur.size = cap * 2 ∧ cur.toList.take (n * 2) = cells A ++ [.int .u64 (e.k : Int), vv e.v] ++ cells B := by
    rcases h.2 with ⟨e1, _⟩ | ⟨g', cap', cur, e1, h1, h2, h3, h4, h5, h6⟩
    · cases e1
    · cases e1
      rw [hnl] at h3 h6
      exact ⟨cur, h1, h2, h4, h3, h5, by rw [h6, cells_append, cells_cons, List.append_assoc]⟩
  obtain ⟨i0, hi, hz0, hz1, hz2⟩ := info_parts infoE
  have hu := uS
  have hlA : (cells A).length = p * 2 := by rw [cells_len, hp]
  have hlB : (cells B).length = q * 2 := by rw [cells_len, hq]
  have hcl : cur.toList.length = cap * 2 := by simpa using hsz
  obtain ⟨R, hR⟩ : ∃ R, cur.toList = cells A ++ [.int .u64 (e.k : Int), vv e.v] ++ cells B ++ R := ⟨cur.toList.drop (n * 2), by rw [← htk, List.take_append_drop]⟩
  -- what is moved
  obtain ⟨AD, hAD, hsrc⟩ : ∃ AD : Addr, (if cap = p + 1 then some (⟨g, 0, none⟩ : Addr) else some ⟨g, (p + 1) * 2, none⟩) = some AD ∧ Hid (∀ t u, (cells B)[t]? = some u → w.drew.cell? (AD.add t) = some u) := by
    by_cases hc : cap = p + 1
    · refine ⟨⟨g, 0, none⟩, by simp [hc], fun t u hu => ?_⟩
      have : B = [] := List.length_eq_zero_iff.1 (by omega)
      rw [this] at hu
      simp [cells] at hu
    · refine ⟨⟨g, (p + 1) * 2, none⟩, by simp [hc], fun t u hu => ?_⟩
      have hlt := (List.getElem?_eq_some_iff.1 hu).1
      rw [addr_add, (cell_plain (w := w.drew) hg _).1, ← Array.getElem?_toList, hR, List.getElem?_append_left (by simp; omega), List.getElem?_append_right (by simp; omega), ← hu]
      congr 1
      simp
      omega
  have s1 : Hid ((cells B).length = q * 2) := hlB
  have s2 : Hid (∀ u ∈ cells B, u.oneCell' = true) := cells_one B
  have s3 : Hid (∀ t, t < (cells B).length → (w.drew.cell? ⟨g, 0 + p * 2 + t, none⟩).isSome = true ∧ w.drew.frozen? ⟨g, 0 + p * 2 + t, none⟩ = false) := by
    intro t ht
    rw [(cell_plain (w := w.drew) hg _).1, (cell_plain (w := w.drew) hg _).2, Array.getElem?_eq_getElem (by omega)]
    exact ⟨rfl, rfl⟩
  obtain ⟨W1, hW1⟩ : ∃ W, W = w.drew.setCells g (0 + p * 2) (cells B) := ⟨_, rfl⟩
  have hgW : W1.heap[g]? = some (.cells (spl cur (0 + p * 2) (cells B)) 78 (0, 0)) := by rw [hW1]; exact heap_setCells (cells B) w.drew g _ cur _ hg
  have hcl1 := fun ty c => clear_one W1 g (m * 2) c hgW (by rw [spl_size]; omega) ty
  have HE := Lib.hid (show CR (W1.setCells g (m * 2) [.int .u64 0, vv v0]) S (.slice (some ⟨g, 0, none⟩) m cap) (A ++ B) ∧ w.grownBy (W1.setCells g (m * 2) [.int .u64 0, vv v0]) (some g) from by
    have hch : Ch [g] w (W1.setCells g (m * 2) [.int .u64 0, vv v0]) := by
      rw [hW1]
      exact ch_setCells g (.inl (by simp)) _ _ (ch_setCells g (.inl (by simp)) _ _ (Ch.refl _ w).drew)
    refine ⟨⟨by rw [cells_len], .inr ⟨g, cap, _, by rw [show (A ++ B).length = m by simp; omega], hS, heap_setCells _ W1 g _ _ _ hgW, by simp; omega, hcap, by rw [spl_size, spl_size]; exact hsz, ?_⟩⟩, ⟨hch.os, hch.tape, hch.output, hch.size, fun k hk hkg => hch.block k hk (by simpa using hkg)⟩⟩
    rw [spl_list _ _ _ (by rw [spl_size]; simp; omega), spl_list _ _ _ (by omega), hR, Nat.zero_add, ← hlA, show m * 2 = (cells A).length + (cells B).length by omega, cells_append]
    exact cut_list (cells A) _ (cells B) R _ rfl rfl _ (by simp; omega))
  have hnp1 : n - (p + 1) = q := by omega
  have hpm : p + q = m := hm.symm
  have hpp : ((p : Int) == (p : Int) + 1) = false := by simp; omega
  have hb1 : (0 : Int) ≤ (p : Int) := by omega
  have hb2 : (p : Int) ≤ (p : Int) + 1 := by omega
  have hb3 : (p : Int) + 1 ≤ (n : Int) := by omega
  have hb4 : (0 : Int) ≤ (p : Int) + 1 := by omega
  have hb5 : (n : Int) ≤ (cap : Int) := by omega
  have hb6 : p ≤ cap := by omega
  have hb7 : (m : Int) ≤ (n : Int) := by omega
  have hb8 : ¬ (cap = m) := by omega
  have hb9 : n - m = 1 := by omega
  have htn : ((p : Int) + 1).toNat = p + 1 := by omega
  have HW := Lib.hid hW1
  clear hgW hlA hlB hcl hR htk hsz hg hcap hS hW1 h hp hq hm hn hnl hz0 hz2
  go_enter Try.func38, Try.ntmps38
  go_wp2_with fail
  go_region_law (refine step_append_room rfl (.tmp 22) (.tmp 25) 79 rfl 78 i0 2 uS hi hz1 g 0 p cap (by simp [Act.eval, Act.put]) AD q (cap - (p + 1)) (cells B) (by simp [Act.eval, Act.put]) s1.out hsrc.out s2.out (by omega) s3.out ?_; rw [← HW.out])
  go_wp2
  go_ret
  exact ⟨rfl, HE.out⟩
end Go.Proofs.Ytaccfjlpojglpaa.bI

/-
  An arena of Thing: New.
-/
import Derived.Laws.MakeOwn
import Derived.OwnWalk
import Derived.Test.YtdompamilgbnnaaATB
namespace Go.Proofs.Ytdompamilgbnnaa.aT
open Go.RowKit

attribute [local go_sem] Oper.semAt_some

theorem infoS : (Try.prog.info? 86).map (fun i => (i.zero, i.size, i.bytes)) = some (some (.agg #[.int .i64 0, .int .i64 0, .bool false, .int .i64 0, .string ⟨#[]⟩]), 5, 48) := by kernel_rfl
def zS : Value := .agg #[.int .i64 0, .int .i64 0, .bool false, .int .i64 0, .string ⟨#[]⟩]
theorem made_at (n j : Nat) (h : j < n) : (madeCells zS.cells (n * 5)).toList[j * 5]? = some (.int .i64 0) ∧ (madeCells zS.cells (n * 5)).toList[j * 5 + 1]? = some (.int .i64 0) ∧
    (madeCells zS.cells (n * 5)).toList[j * 5 + 2]? = some (.bool false) ∧ (madeCells zS.cells (n * 5)).toList[j * 5 + 3]? = some (.int .i64 0) ∧ (madeCells zS.cells (n * 5)).toList[j * 5 + 4]? = some (.string ⟨#[]⟩) := by
  have h0 : j * 5 < n * 5 := by omega
  have h1 : j * 5 + 1 < n * 5 := by omega
  have h2 : j * 5 + 2 < n * 5 := by omega
  have h3 : j * 5 + 3 < n * 5 := by omega
  have h4 : j * 5 + 4 < n * 5 := by omega
  have m0 : j * 5 % 5 = 0 := by omega
  have m1 : (j * 5 + 1) % 5 = 1 := by omega
  have m2 : (j * 5 + 2) % 5 = 2 := by omega
  have m3 : (j * 5 + 3) % 5 = 3 := by omega
  have m4 : (j * 5 + 4) % 5 = 4 := by omega
  refine ⟨?_, ?_, ?_, ?_, ?_⟩
  · simp [madeCells, Value.cells, zS, h0, m0]
  · simp [madeCells, Value.cells, zS, h1, m1]
  · simp [madeCells, Value.cells, zS, h2, m2]
  · simp [madeCells, Value.cells, zS, h3, m3]
  · simp [madeCells, Value.cells, zS, h4, m4]

/-- New's slots while k of them bear their number. -/
structure PC (w : World) (G n k : Nat) : Prop where
  a0 : ∀ j, j < k → w.cell? ⟨G, j * 5, none⟩ = some (.int .i64 (j : Int))
  a1 : ∀ j, j < k → w.cell? ⟨G, j * 5 + 1, none⟩ = some (.int .i64 1)
  b0 : ∀ j, k ≤ j → j < n → w.cell? ⟨G, j * 5, none⟩ = some (.int .i64 0)
  b1 : ∀ j, k ≤ j → j < n → w.cell? ⟨G, j * 5 + 1, none⟩ = some (.int .i64 0)
  c2 : ∀ j, j < n → w.cell? ⟨G, j * 5 + 2, none⟩ = some (.bool false)
  c3 : ∀ j, j < n → w.cell? ⟨G, j * 5 + 3, none⟩ = some (.int .i64 0)
  c4 : ∀ j, j < n → w.cell? ⟨G, j * 5 + 3 + 1, none⟩ = some (.string ⟨#[]⟩)
  f : ∀ o, w.frozen? ⟨G, o, none⟩ = false
theorem PC.step {w : World} {G n k : Nat} (h : PC w G n k) (hk : k < n) : PC ((w.setCell ⟨G, k * 5, none⟩ (.int .i64 (k : Int))).setCell ⟨G, k * 5 + 1, none⟩ (.int .i64 1)) G n (k + 1) := by
  refine ⟨fun j hj => ?_, fun j hj => ?_, fun j h1 h2 => ?_, fun j h1 h2 => ?_, fun j hj => ?_, fun j hj => ?_, fun j hj => ?_, fun o => by simpa using h.f o⟩
  · by_cases e : j = k
    · subst e; exact setCell_other (setCell_same (h.b0 j (Nat.le_refl _) hk)) (addr_ne_off (by omega))
    · exact setCell_other (setCell_other (h.a0 j (by omega)) (addr_ne_off (by omega))) (addr_ne_off (by omega))
  · by_cases e : j = k
    · subst e; exact setCell_same (setCell_other (h.b1 j (Nat.le_refl _) hk) (addr_ne_off (by omega)))
    · exact setCell_other (setCell_other (h.a1 j (by omega)) (addr_ne_off (by omega))) (addr_ne_off (by omega))
  · exact setCell_other (setCell_other (h.b0 j (by omega) h2) (addr_ne_off (by omega))) (addr_ne_off (by omega))
  · exact setCell_other (setCell_other (h.b1 j (by omega) h2) (addr_ne_off (by omega))) (addr_ne_off (by omega))
  · exact setCell_other (setCell_other (h.c2 j hj) (addr_ne_off (by omega))) (addr_ne_off (by omega))
  · exact setCell_other (setCell_other (h.c3 j hj) (addr_ne_off (by omega))) (addr_ne_off (by omega))
  · exact setCell_other (setCell_other (h.c4 j hj) (addr_ne_off (by omega))) (addr_ne_off (by omega))

def fresh (n : Nat) : List (Sl Th) := List.replicate n ⟨1, false, default⟩
theorem at0_fresh (n k : Nat) (h : k < n) : at0 (fresh n) k = ⟨1, false, default⟩ := by
  rw [at0_get _ _ (by simpa [fresh] using h)]; simp [fresh]

set_option maxHeartbeats 1000000 in
theorem new_any' (n : Nat) (w : World) (S : Nat) (hS : w.heap.size = S) (h1 : 1 ≤ n) (h2 : n ≤ 64) :
    Calls Try.prog 22 #[.int .i64 (n : Int)] w fun e w' => ∃ R, e = .returned (.tuple #[.pointer (some ⟨R, 0, none⟩), .int .i64 0]) ∧
      AC w' R S (fresh n) ∧ Below S w w' ∧ S < R ∧ R < w'.heap.size := by
  obtain ⟨i0, hi, hz0, hz1, hz2⟩ := info_parts infoS
  have hd1 : decide ((n : Int) < 1) = false := by simp; omega
  have hd2 : decide ((64 : Int) < (n : Int)) = false := by simp; omega
  have hp0 : (0 : Int) ≤ (n : Int) := by omega
  go_enter Try.func22, Try.ntmps22
  go_wp2_with (at_make; go_must (refine wpList_make_full _ rfl _ _ 82 rfl w.heap.size 86 i0 zS 5 Try.underlying82 hi hz0 hz1 _ _ _ _ n rfl rfl rfl rfl (by rw [hz2]; omega) (by unfold maxLen; omega) (Nat.le_refl _) ?_); intro w1 hown hgrow)
  have hB : Below w.heap.size w w1 := (Below.refl _ _).grown hgrow (Nat.le_refl _) (fun k e => by cases e)
  have hlt : w.heap.size < w1.heap.size := (World.ownsRow.lt hown w.heap.size rfl).2
  have hP0 : PC w1 w.heap.size n 0 := by
    have hm := made_at n
    refine ⟨fun j hj => by omega, fun j hj => by omega, fun j _ hj => ?_, fun j _ hj => ?_, fun j hj => ?_, fun j hj => ?_, fun j hj => ?_, fun o => World.ownsRow.frozenAt hown o⟩
    · rw [World.ownsRow.cellAt hown (j * 5) (by omega)]; exact (hm j hj).1
    · rw [World.ownsRow.cellAt hown (j * 5 + 1) (by omega)]; exact (hm j hj).2.1
    · rw [World.ownsRow.cellAt hown (j * 5 + 2) (by omega)]; exact (hm j hj).2.2.1
    · rw [World.ownsRow.cellAt hown (j * 5 + 3) (by omega)]; exact (hm j hj).2.2.2.1
    · rw [show j * 5 + 3 + 1 = j * 5 + 4 by omega, World.ownsRow.cellAt hown (j * 5 + 4) (by omega)]; exact (hm j hj).2.2.2.2
  rw [hS] at hlt hB hP0
  obtain ⟨R, hR⟩ : ∃ R, R = w1.heap.size := ⟨_, rfl⟩
  have hRc := cell_new w1 (.slice (some ⟨S, 0, none⟩) n n) 84
  have hBR := hB.alloc (by omega : S ≤ w1.heap.size) (.cells #[.slice (some ⟨S, 0, none⟩) n n] 84)
  have hPR : PC (w1.alloc (.cells #[.slice (some ⟨S, 0, none⟩) n n] 84)) S n 0 :=
    have c : ∀ o, (w1.alloc (.cells #[.slice (some ⟨S, 0, none⟩) n n] 84)).cell? ⟨S, o, none⟩ = w1.cell? ⟨S, o, none⟩ := fun o => World.cell?_alloc_past _ _ _ hlt
    ⟨fun j hj => by omega, fun j hj => by omega, fun j a b => (c _).trans (hP0.b0 j a b), fun j a b => (c _).trans (hP0.b1 j a b), fun j hj => (c _).trans (hP0.c2 j hj), fun j hj => (c _).trans (hP0.c3 j hj), fun j hj => (c _).trans (hP0.c4 j hj),
      fun o => (World.frozen?_alloc_old w1 _ ⟨S, o, none⟩ (Nat.ne_of_lt hlt)).trans (hP0.f o)⟩
  have hszR : (w1.alloc (.cells #[.slice (some ⟨S, 0, none⟩) n n] 84)).heap.size = R + 1 := by rw [hR]; simp
  rw [← hR] at hRc hlt ⊢
  generalize w1.alloc (.cells #[.slice (some ⟨S, 0, none⟩) n n] 84) = w2 at *
  have HB := Lib.hid hBR
  have HP := Lib.hid hPR
  have hc0 := hRc.1
  have HS := Lib.hid hszR
  have HC0 := Lib.hid hc0
  clear hown hgrow hB hP0 hS hR hRc hBR hPR hszR
  have hne : ∀ a b : Nat, (⟨S, a, none⟩ : Addr) ≠ ⟨R, b, none⟩ := fun a b => addr_ne_block (by omega)
  have HNE := Lib.hid hne
  clear hne
  go_wp2
  go_loopw [21] (fun x wr => ∃ k : Nat, k ≤ n ∧ x = .int .i64 (k : Int) ∧ PC wr S n k ∧ wr.cell? ⟨R, 0, none⟩ = some (.slice (some ⟨S, 0, none⟩) n n) ∧ Below S w wr ∧ wr.heap.size = R + 1) (fun x _ => n - (intOf x).toNat)
  case atStart => exact ⟨0, Nat.zero_le _, rfl, HP.out, HC0.out, HB.out, HS.out⟩
  case round =>
    obtain ⟨k, hk, rfl, hP, hc, hB, hsz⟩ := hrel
    have HPk := Lib.hid hP
    have HBk := Lib.hid hB
    have HSk := Lib.hid hsz
    clear hP hB hsz hc0
    by_cases hlt2 : k < n
    · have d0 := HPk.out.b0 k (Nat.le_refl _) hlt2
      have d1 := HPk.out.b1 k (Nat.le_refl _) hlt2
      have g0 := HPk.out.f (k * 5)
      have g1 := HPk.out.f (k * 5 + 1)
      go_wp2
      go_roundw
      case rel =>
        exact ⟨k + 1, by omega, by go_num, HPk.out.step hlt2, setCell_other (setCell_other hc (HNE.out _ _)) (HNE.out _ _), (HBk.out.setCell (p := ⟨S, k * 5, none⟩) (Nat.le_refl _) _).setCell (p := ⟨S, k * 5 + 1, none⟩) (Nat.le_refl _) _, by simpa [World.setCell] using HSk.out⟩
      case measure => simp [intOf]; omega
    · obtain rfl : k = n := by omega
      go_wp2
      go_ret2
      have hP := HPk.out
      refine ⟨R, rfl, ⟨by omega, by simpa [fresh] using h1, by simpa [fresh] using h2, by simpa [fresh] using hc, fun j hj => ?_, fun j hj => ?_⟩, HBk.out, hlt, by have := HSk.out; omega⟩
      · have hj : j < k := by simpa [fresh] using hj
        rw [at0_fresh _ _ hj]
        exact ⟨hP.a0 j hj, hP.a1 j hj, hP.c2 j hj, hP.c3 j hj, hP.c4 j hj, hP.f _, hP.f _, hP.f _, hP.f _⟩
      · have hj : j < k := by simpa [fresh] using hj
        rw [at0_fresh _ _ hj]
        exact ⟨by decide, fun e => by cases e⟩
theorem new_any (n : Nat) (w : World) (h1 : 1 ≤ n) (h2 : n ≤ 64) :
    Calls Try.prog 22 #[.int .i64 (n : Int)] w fun e w' => ∃ R, e = .returned (.tuple #[.pointer (some ⟨R, 0, none⟩), .int .i64 0]) ∧
      AC w' R w.heap.size (fresh n) ∧ Below w.heap.size w w' ∧ w.heap.size < R ∧ R < w'.heap.size := new_any' n w _ rfl h1 h2
end Go.Proofs.Ytdompamilgbnnaa.aT

/-
  What the rows of stage 20 share: openers (ints, calls, names, bools), the laws as the rows call them.
-/
import Derived.Test.YtediabcgeghogaaBaseT
import Derived.Test.YtediabcgeghogaaOrPl
import Derived.Test.YtediabcgeghogaaOrPa
import Derived.Test.YtediabcgeghogaaOrNil
import Derived.Deep.Strs
namespace Go.Proofs.Ytediabcgeghogaa
open Go.ChangeShapes Go.WideShapes Go.ChangeAt Go.RowKit

theorem ints_opened {H : Type} {enc : TypeId × Value → H} {W : World} {a : Option Addr} {len cap : Nat} {d : DataW H} {p : List MemPlace} (h : DataW.Trod enc Try.prog W 0 (fun _ => true) true 28 (.slice a len cap) d p) :
    ∃ l : List Int, len = l.length ∧ len ≤ cap ∧ cap ≤ 9223372036854775807 ∧ oI.KAt W a l ∧ ∀ k ∈ l, oI.wfK k := by
  obtain ⟨fuel, hf⟩ := h
  rcases open_ints Try.underlying28 Try.underlying3 (by kernel_rfl) hf with ⟨hcs, _⟩ | ⟨x, l, c, zs, hcs, _, hl, hm, hz, _, hcell, hwf⟩
  · simp [Value.cells] at hcs
    obtain ⟨rfl, rfl, rfl⟩ := hcs
    exact ⟨[], rfl, Nat.le_refl _, by decide, .inl rfl, by simp⟩
  · simp [Value.cells] at hcs
    obtain ⟨rfl, rfl, rfl⟩ := hcs
    have hz : zs.length = cap := by simpa using hz
    unfold maxLen at hm
    refine ⟨zs.take len, by rw [List.length_take]; omega, hl, hm, ?_, fun k hk => hwf k (List.mem_of_mem_take hk)⟩
    by_cases h0 : len = 0
    · subst h0; exact .inl (by simp)
    · obtain ⟨b, off, spot⟩ := x
      have hc := hcell 0 (by omega)
      have hspot : spot = none := by simpa [Addr.add] using World.cell?_spot hc
      subst hspot
      refine .inr ⟨b, off, rfl, fun i k hi => ?_⟩
      have hlt := (List.getElem?_eq_some_iff.1 hi).1
      rw [List.length_take] at hlt
      have hci := hcell i (by omega)
      rw [addr_add] at hci
      rw [hci]
      have hi2 : i < len := by omega
      simp [hi2] at hi
      simp [hi]

theorem names_opened {H : Type} {enc : TypeId × Value → H} {W : World} {a : Option Addr} {len cap : Nat} {d : DataW H} {p : List MemPlace} (h : DataW.Trod enc Try.prog W 0 (fun _ => true) true 46 (.slice a len cap) d p) :
    ∃ l : List (List UInt8), len = l.length ∧ len ≤ cap ∧ cap ≤ 9223372036854775807 ∧ oS.KAt W a l ∧ ∀ k ∈ l, oS.wfK k := by
  obtain ⟨fuel, hf⟩ := h
  rcases Go.Deep.open_strs Try.underlying46 Try.underlying9 (by kernel_rfl) hf with ⟨hcs, _⟩ | ⟨x, l, c, m, Sx, hcs, _, hl, hm, hmm, _, hcell⟩
  · simp [Value.cells] at hcs
    obtain ⟨rfl, rfl, rfl⟩ := hcs
    exact ⟨[], rfl, Nat.zero_le _, by decide, .inl rfl, by simp⟩
  · simp [Value.cells] at hcs
    obtain ⟨rfl, rfl, rfl⟩ := hcs
    simp at hmm
    unfold maxLen at hm
    refine ⟨(List.range len).map fun i => (Sx i).data.toList, by simp, by simpa using hl, hm, ?_, fun k hk => ?_⟩
    · by_cases h0 : len = 0
      · exact .inl (by simp [h0])
      · obtain ⟨b, off, spot⟩ := x
        have hc := (hcell 0 (by omega)).1
        have hspot : spot = none := by simpa [Addr.add] using World.cell?_spot hc
        subst hspot
        refine .inr ⟨b, off, rfl, fun i k hi => ?_⟩
        have hlt : i < len := by
          have := (List.getElem?_eq_some_iff.1 hi).1
          simpa using this
        obtain rfl : (Sx i).data.toList = k := by simpa [hlt] using hi
        have := (hcell i (by omega)).1
        rw [addr_add] at this
        rw [this]
    · obtain ⟨i, hi, rfl⟩ := List.mem_map.1 hk
      have hi : i < len := by simpa using hi
      have := (hcell i (by omega)).2
      show (Sx i).data.toList.length ≤ maxLen
      rw [Array.length_toList]
      exact this

theorem bools_opened {H : Type} {enc : TypeId × Value → H} {W : World} {a : Option Addr} {len cap : Nat} {d : DataW H} {p : List MemPlace} (h : DataW.Trod enc Try.prog W 0 (fun _ => true) true 47 (.slice a len cap) d p) :
    len ≤ 9223372036854775807 ∧ ∃ B, BAt W a len B := by
  obtain ⟨fuel, hf⟩ := h
  rcases Go.Deep.open_bools Try.underlying47 Try.underlying4 (by kernel_rfl) hf with ⟨hcs, _⟩ | ⟨x, l, c, B, hcs, _, hl, hm, _, hcell⟩
  · simp [Value.cells] at hcs
    obtain ⟨rfl, rfl, rfl⟩ := hcs
    exact ⟨by decide, fun _ => false, .inl rfl⟩
  · simp [Value.cells] at hcs
    obtain ⟨rfl, rfl, rfl⟩ := hcs
    unfold maxLen at hm
    refine ⟨by omega, B, ?_⟩
    by_cases h0 : len = 0
    · exact .inl h0
    · obtain ⟨b, off, spot⟩ := x
      have hc := hcell 0 (by omega)
      have hspot : spot = none := by simpa [Addr.add] using World.cell?_spot hc
      subst hspot
      refine .inr ⟨b, off, rfl, fun i hi => ?_⟩
      have := hcell i (by omega)
      rw [addr_add] at this
      exact this

theorem acts_opened {H : Type} {enc : TypeId × Value → H} {W : World} {a : Option Addr} {len cap : Nat} {d : DataW H} {p : List MemPlace} (h : DataW.Trod enc Try.prog W 0 (fun _ => true) true 22 (.slice a len cap) d p) :
    len ≤ 9223372036854775807 ∧ ActsAt W a len := by
  obtain ⟨fuel, hf⟩ := h
  rcases Go.Deep.open_slice Try.underlying22 hf with ⟨hcs, _⟩ | ⟨x, l, c, m, n, D, Q, hcs, _, hl, hm, hmm, _, hi⟩
  · simp [Value.cells] at hcs
    obtain ⟨rfl, rfl, rfl⟩ := hcs
    exact ⟨by decide, .inl rfl⟩
  · simp [Value.cells] at hcs
    obtain ⟨rfl, rfl, rfl⟩ := hcs
    simp at hmm
    unfold maxLen at hm
    refine ⟨by omega, ?_⟩
    by_cases h0 : len = 0
    · exact .inl h0
    · have key : ∀ i, i < len → ∃ (o : Bool) (k : Int), W.cell? (x.add (i * 2)) = some (.bool o) ∧ W.cell? ((x.add (i * 2)).add 1) = some (.int .i64 k) ∧ oI.wfK k := by
        intro i hlt
        obtain ⟨cs, hc, ht⟩ := hi i (by omega)
        rw [show Try.prog.cellsOf 30 = 2 by kernel_rfl] at hc
        obtain ⟨n', hfa⟩ := fields_at Try.underlying30 (by kernel_rfl) (by kernel_rfl) (by rw [show Try.prog.cellsOf 30 = 2 by kernel_rfl]; exact hc) ht
        obtain ⟨v0, y0, c0, t0⟩ := hfa 0 _ rfl
        obtain ⟨v1, y1, c1, t1⟩ := hfa 1 _ rfl
        obtain ⟨o, e0, _⟩ := DataW.trod_bool Try.underlying4 t0
        obtain ⟨k, e1, _, hw⟩ := DataW.trod_int Try.underlying3 t1
        cases e0
        cases e1
        exact ⟨o, k, by rw [show (x.add (i * 2)).add 0 = x.add (i * 2) from rfl] at c0; exact c0, c1, hw⟩
      obtain ⟨b, off, spot⟩ := x
      obtain ⟨o, k, hk, _⟩ := key 0 (by omega)
      have hspot : spot = none := by simpa [Addr.add] using World.cell?_spot hk
      subst hspot
      refine .inr ⟨b, off, rfl, fun i hlt => ?_⟩
      obtain ⟨o, k, h1, h2, h3⟩ := key i hlt
      rw [addr_add] at h1
      rw [addr_add, addr_add] at h2
      exact ⟨o, k, h1, h2, h3⟩

theorem plays_row (room : Int) (a : Option Addr) (len cap : Nat) (k : Int) (w : World) (hk : (Lit.int .i64 k).wf = true) (hl : len ≤ 9223372036854775807) (hA : ActsAt w a len) :
    Calls Try.prog 3 #[.int .i64 room, .slice a len cap, .int .i64 k] w fun e w' => e = .returned (.bool true) ∧ Below w.heap.size w w' := by
  by_cases h : room < 1 ∨ 64 < room
  · exact (bad_law room _ k w h).mono fun e w' ⟨he, hc⟩ => ⟨he, hc.below _ (by simp) (Nat.le_refl _)⟩
  · obtain ⟨r, rfl⟩ : ∃ r : Nat, room = (r : Int) := ⟨room.toNat, by omega⟩
    exact (good_law r (by omega) (by omega) a len cap k hk w hA hl).mono fun e w' ⟨he, hc⟩ => ⟨he, hc.below _ (by simp) (Nat.le_refl _)⟩
theorem many_row (r : Int) (a : Option Addr) (len cap : Nat) (w : World) (o : ∃ l : List Int, len = l.length ∧ len ≤ cap ∧ cap ≤ 9223372036854775807 ∧ oI.KAt w a l ∧ ∀ k ∈ l, oI.wfK k) :
    Calls Try.prog 4 #[.int .i64 r, .slice a len cap] w fun e w' => e = .returned (.bool true) ∧ Below w.heap.size w w' := by
  obtain ⟨l, rfl, h1, h2, h3, h4⟩ := o
  exact (many_law r a cap l w h3 h4 h1 h2).mono fun e w' ⟨he, hc⟩ => ⟨he, hc.below _ (by simp) (Nat.le_refl _)⟩
theorem passes_row (a : Option Addr) (len cap : Nat) (b : Option Addr) (dl dcap : Nat) (w : World) (o : ∃ l : List (List UInt8), len = l.length ∧ len ≤ cap ∧ cap ≤ 9223372036854775807 ∧ oS.KAt w a l ∧ ∀ k ∈ l, oS.wfK k) (o2 : dl ≤ 9223372036854775807 ∧ ∃ B, BAt w b dl B) :
    Calls Try.prog 5 #[.slice a len cap, .slice b dl dcap] w fun e w' => e = .returned (.bool true) ∧ Below w.heap.size w w' := by
  obtain ⟨l, rfl, h1, h2, h3, h4⟩ := o
  obtain ⟨h5, B, h6⟩ := o2
  exact (passes_law a cap l b dl dcap B w h3 h4 h1 h2 h6 h5).mono fun e w' ⟨he, hc⟩ => ⟨he, hc.below _ (by simp) (Nat.le_refl _)⟩
theorem nil_row (k : Int) (w : World) : Calls Try.prog 6 #[.int .i64 k] w fun e w' => e = .returned (.bool true) ∧ Below w.heap.size w w' :=
  (nil_law k w).mono fun e w' ⟨he, hc⟩ => ⟨he, hc.below _ (by simp) (Nat.le_refl _)⟩
end Go.Proofs.Ytediabcgeghogaa

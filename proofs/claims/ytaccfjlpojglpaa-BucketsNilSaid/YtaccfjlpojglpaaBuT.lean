/-
  What the rows of stage 21 share: openers (words, strings, bools, calls), the laws as the rows call them.
-/
import Derived.Test.YtaccfjlpojglpaaBaseT
import Derived.Test.YtaccfjlpojglpaaBuPl
import Derived.Test.YtaccfjlpojglpaaBuFi
import Derived.Test.YtaccfjlpojglpaaBuSp
import Derived.Test.YtaccfjlpojglpaaBuNil
import Derived.Deep.Strs
namespace Go.Proofs.Ytaccfjlpojglpaa
open Go.ChangeShapes Go.WideShapes Go.ChangeAt Go.RowKit

theorem u64_of {a : Int} (h : (Lit.int .u64 a).wf = true) : a = ((a.toNat : Nat) : Int) := by
  have h2 : 0 ≤ a ∧ a ≤ 18446744073709551615 := by simpa [Lit.wf, IntKind.min, IntKind.max, IntKind.signed, IntKind.bits] using h
  omega
theorem words_opened {H : Type} {enc : TypeId × Value → H} {W : World} {a : Option Addr} {len cap : Nat} {d : DataW H} {p : List MemPlace} (h : DataW.Trod enc Try.prog W 0 (fun _ => true) true 48 (.slice a len cap) d p) :
    ∃ l : List Nat, len = l.length ∧ len ≤ cap ∧ cap ≤ 9223372036854775807 ∧ bI.KU W a l := by
  obtain ⟨fuel, hf⟩ := h
  rcases open_ints Try.underlying48 Try.underlying29 (by kernel_rfl) hf with ⟨hcs, _⟩ | ⟨x, l, c, zs, hcs, _, hl, hm, hz, _, hcell, hwf⟩
  · simp [Value.cells] at hcs
    obtain ⟨rfl, rfl, rfl⟩ := hcs
    exact ⟨[], rfl, Nat.le_refl _, by decide, .inl rfl⟩
  · simp [Value.cells] at hcs
    obtain ⟨rfl, rfl, rfl⟩ := hcs
    have hz : zs.length = cap := by simpa using hz
    unfold maxLen at hm
    refine ⟨(zs.take len).map Int.toNat, by rw [List.length_map, List.length_take]; omega, hl, hm, ?_⟩
    by_cases h0 : len = 0
    · subst h0; exact .inl (by simp)
    · obtain ⟨b, off, spot⟩ := x
      have hc := hcell 0 (by omega)
      have hspot : spot = none := by simpa [Addr.add] using World.cell?_spot hc
      subst hspot
      refine .inr ⟨b, off, rfl, fun i k hi => ?_⟩
      have hlt := (List.getElem?_eq_some_iff.1 hi).1
      rw [List.length_map, List.length_take] at hlt
      have hci := hcell i (by omega)
      rw [addr_add] at hci
      rw [hci]
      have hi2 : i < len := by omega
      have hi3 : i < zs.length := by omega
      have hw := u64_of (hwf _ (List.getElem_mem hi3))
      rw [List.getElem?_map, List.getElem?_take, if_pos hi2, List.getElem?_eq_getElem hi3] at hi
      obtain rfl : (zs[i]).toNat = k := by simpa using hi
      rw [← hw]
      simp [hi3]

theorem strs_opened {H : Type} {enc : TypeId × Value → H} {W : World} {a : Option Addr} {len cap : Nat} {d : DataW H} {p : List MemPlace} (h : DataW.Trod enc Try.prog W 0 (fun _ => true) true 54 (.slice a len cap) d p) :
    len ≤ 9223372036854775807 ∧ ∃ S, SAt W a len S := by
  obtain ⟨fuel, hf⟩ := h
  rcases Go.Deep.open_strs Try.underlying54 Try.underlying9 (by kernel_rfl) hf with ⟨hcs, _⟩ | ⟨x, l, c, m, Sx, hcs, _, hl, hm, hmm, _, hcell⟩
  · simp [Value.cells] at hcs
    obtain ⟨rfl, rfl, rfl⟩ := hcs
    exact ⟨by decide, fun _ => [], .inl rfl⟩
  · simp [Value.cells] at hcs
    obtain ⟨rfl, rfl, rfl⟩ := hcs
    simp at hmm
    unfold maxLen at hm
    refine ⟨by omega, fun i => (Sx i).data.toList, ?_⟩
    by_cases h0 : len = 0
    · exact .inl h0
    · obtain ⟨b, off, spot⟩ := x
      have hc := (hcell 0 (by omega)).1
      have hspot : spot = none := by simpa [Addr.add] using World.cell?_spot hc
      subst hspot
      refine .inr ⟨b, off, rfl, fun i hi => ?_⟩
      have := (hcell i (by omega)).1
      rw [addr_add] at this
      rw [this]

theorem bools_opened {H : Type} {enc : TypeId × Value → H} {W : World} {a : Option Addr} {len cap : Nat} {d : DataW H} {p : List MemPlace} (h : DataW.Trod enc Try.prog W 0 (fun _ => true) true 55 (.slice a len cap) d p) :
    len ≤ 9223372036854775807 ∧ ∃ B, BAt W a len B := by
  obtain ⟨fuel, hf⟩ := h
  rcases Go.Deep.open_bools Try.underlying55 Try.underlying4 (by kernel_rfl) hf with ⟨hcs, _⟩ | ⟨x, l, c, B, hcs, _, hl, hm, _, hcell⟩
  · simp [Value.cells] at hcs
    obtain ⟨rfl, rfl, rfl⟩ := hcs
    exact ⟨by decide, fun _ => false, .inl rfl⟩
  · simp [Value.cells] at hcs
    obtain ⟨rfl, rfl, rfl⟩ := hcs
    unfold maxLen at hm
    refine ⟨by omega, B, ?_⟩
    by_cases h0 : len = 0
    · exact .inl h0
    · obtain ⟨b, off, spot⟩ := x
      have hc := hcell 0 (by omega)
      have hspot : spot = none := by simpa [Addr.add] using World.cell?_spot hc
      subst hspot
      refine .inr ⟨b, off, rfl, fun i hi => ?_⟩
      have := hcell i (by omega)
      rw [addr_add] at this
      exact this

theorem acts_opened {H : Type} {enc : TypeId × Value → H} {W : World} {a : Option Addr} {len cap : Nat} {d : DataW H} {p : List MemPlace} (h : DataW.Trod enc Try.prog W 0 (fun _ => true) true 22 (.slice a len cap) d p) :
    len ≤ 9223372036854775807 ∧ ActsAt W a len := by
  obtain ⟨fuel, hf⟩ := h
  rcases Go.Deep.open_slice Try.underlying22 hf with ⟨hcs, _⟩ | ⟨x, l, c, m, n, D, Q, hcs, _, hl, hm, hmm, _, hi⟩
  · simp [Value.cells] at hcs
    obtain ⟨rfl, rfl, rfl⟩ := hcs
    exact ⟨by decide, .inl rfl⟩
  · simp [Value.cells] at hcs
    obtain ⟨rfl, rfl, rfl⟩ := hcs
    simp at hmm
    unfold maxLen at hm
    refine ⟨by omega, ?_⟩
    by_cases h0 : len = 0
    · exact .inl h0
    · have key : ∀ i, i < len → ∃ (kd : Int) (k : Nat) (x' : Int), W.cell? (x.add (i * 3)) = some (.int .i64 kd) ∧ W.cell? ((x.add (i * 3)).add 1) = some (.int .u64 (k : Int)) ∧ W.cell? ((x.add (i * 3)).add 2) = some (.int .i64 x') := by
        intro i hlt
        obtain ⟨cs, hc, ht⟩ := hi i (by omega)
        rw [show Try.prog.cellsOf 31 = 3 by kernel_rfl] at hc
        obtain ⟨n', hfa⟩ := fields_at Try.underlying31 (by kernel_rfl) (by kernel_rfl) (by rw [show Try.prog.cellsOf 31 = 3 by kernel_rfl]; exact hc) ht
        obtain ⟨v0, y0, c0, t0⟩ := hfa 0 _ rfl
        obtain ⟨v1, y1, c1, t1⟩ := hfa 1 _ rfl
        obtain ⟨v2, y2, c2, t2⟩ := hfa 2 _ rfl
        obtain ⟨kd, e0, _, _⟩ := DataW.trod_int Try.underlying3 t0
        obtain ⟨k, e1, _, hw⟩ := DataW.trod_int Try.underlying29 t1
        obtain ⟨z, e2, _, _⟩ := DataW.trod_int Try.underlying3 t2
        cases e0
        cases e1
        cases e2
        exact ⟨kd, k.toNat, z, by rw [show (x.add (i * 3)).add 0 = x.add (i * 3) from rfl] at c0; exact c0, by rw [← u64_of hw]; exact c1, c2⟩
      obtain ⟨b, off, spot⟩ := x
      obtain ⟨o, k, z, hk, _⟩ := key 0 (by omega)
      have hspot : spot = none := by simpa [Addr.add] using World.cell?_spot hk
      subst hspot
      refine .inr ⟨b, off, rfl, fun i hlt => ?_⟩
      obtain ⟨o, k, z, h1, h2, h3⟩ := key i hlt
      rw [addr_add] at h1
      rw [addr_add, addr_add] at h2 h3
      exact ⟨o, k, z, h1, h2, h3⟩

theorem play_row (n room : Int) (a : Option Addr) (len cap : Nat) (w : World) (hl : len ≤ 9223372036854775807) (hA : ActsAt w a len) :
    Calls Try.prog 3 #[.int .i64 n, .int .i64 room, .slice a len cap] w fun e w' => e = .returned (.bool true) ∧ Below w.heap.size w w' := by
  by_cases h : n < 1 ∨ 64 < n ∨ room < 1 ∨ 64 < room
  · exact (bad_law n room _ w h).mono fun e w' ⟨he, hc⟩ => ⟨he, hc.below _ (by simp) (Nat.le_refl _)⟩
  · obtain ⟨m, rfl⟩ : ∃ m : Nat, n = (m : Int) := ⟨n.toNat, by omega⟩
    obtain ⟨r, rfl⟩ : ∃ r : Nat, room = (r : Int) := ⟨room.toNat, by omega⟩
    exact (good_law m r (by omega) (by omega) a len cap w hA hl).mono fun e w' ⟨he, hc⟩ => ⟨he, hc.below _ (by simp) (Nat.le_refl _)⟩
theorem find_row (r : Int) (a : Option Addr) (len cap : Nat) (v : Option Addr) (vl vcap : Nat) (b : Option Addr) (dl dcap : Nat) (w : World) (o : ∃ l : List Nat, len = l.length ∧ len ≤ cap ∧ cap ≤ 9223372036854775807 ∧ bI.KU w a l) (o2 : vl ≤ 9223372036854775807 ∧ ∃ S, SAt w v vl S) (o3 : dl ≤ 9223372036854775807 ∧ ∃ B, BAt w b dl B) :
    Calls Try.prog 4 #[.int .i64 r, .slice a len cap, .slice v vl vcap, .slice b dl dcap] w fun e w' => e = .returned (.bool true) ∧ Below w.heap.size w w' := by
  obtain ⟨l, rfl, h1, h2, h3⟩ := o
  obtain ⟨h4, S, h5⟩ := o2
  obtain ⟨h6, B, h7⟩ := o3
  exact (find_law r a cap l v vl vcap S b dl dcap B w h3 h1 h2 h5 h4 h7 h6).mono fun e w' ⟨he, hc⟩ => ⟨he, hc.below _ (by simp) (Nat.le_refl _)⟩
theorem spread_row (r : Int) (a : Option Addr) (len cap : Nat) (w : World) (o : ∃ l : List Nat, len = l.length ∧ len ≤ cap ∧ cap ≤ 9223372036854775807 ∧ bI.KU w a l) :
    Calls Try.prog 5 #[.int .i64 r, .slice a len cap] w fun e w' => e = .returned (.bool true) ∧ Below w.heap.size w w' := by
  obtain ⟨l, rfl, h1, h2, h3⟩ := o
  exact (spread_law r a cap l w h3 (Nat.le_trans h1 h2)).mono fun e w' ⟨he, hc⟩ => ⟨he, hc.below _ (by simp) (Nat.le_refl _)⟩
theorem nil_row (k n : Int) (w : World) (hk : (Lit.int .u64 k).wf = true) : Calls Try.prog 6 #[.int .u64 k, .int .i64 n] w fun e w' => e = .returned (.bool true) ∧ Below w.heap.size w w' := by
  rw [u64_of hk]
  exact (nil_law _ n w).mono fun e w' ⟨he, hc⟩ => ⟨he, hc.below _ (by simp) (Nat.le_refl _)⟩
end Go.Proofs.Ytaccfjlpojglpaa

/-
  A memory in a block of 273 cells: Size, piece, state, State, nextPage.
-/
import Derived.Test.YtcdolkbljheniaaUsA
namespace Go.Proofs.Ytcdolkbljheniaa
open Go.RowKit

theorem i64_of {a : Int} (h : (Lit.int .i64 a).wf = true) : -9223372036854775808 ≤ a ∧ a ≤ 9223372036854775807 := by
  simpa [Lit.wf, IntKind.min, IntKind.max, IntKind.signed, IntKind.bits] using h
/-- A memory in memory. -/
structure UM (w : World) (b : Nat) (x : MS) : Prop where
  lo : 1 ≤ x.n
  hi : x.n ≤ 16
  c : w.cell? ⟨b, 0, none⟩ = some (.int .i64 (x.n : Int))
  s : ∀ i, i < 16 → w.cell? ⟨b, 1 + i, none⟩ = some (.int .i64 (x.s i))
  y : ∀ i, i < 256 → w.cell? ⟨b, 17 + i, none⟩ = some (.int .u8 (x.b i))
  fr : ∀ k, w.frozen? ⟨b, k, none⟩ = false
section
variable {w w' : World} {b : Nat} {x : MS}
theorem UM.lt (h : UM w b x) : b < w.heap.size := cell_lt h.c
theorem UM.ch {S : List Nat} (h : UM w b x) (hc : Ch S w w') (hb : b ∉ S) : UM w' b x :=
  ⟨h.lo, h.hi, (hc.cell (p := ⟨b, 0, none⟩) h.lt hb).trans h.c, fun i hi => (hc.cell (p := ⟨b, 1 + i, none⟩) h.lt hb).trans (h.s i hi), fun i hi => (hc.cell (p := ⟨b, 17 + i, none⟩) h.lt hb).trans (h.y i hi), fun k => (hc.frozen (p := ⟨b, k, none⟩) h.lt hb).trans (h.fr k)⟩
theorem UM.drew (h : UM w b x) : UM w.drew b x := ⟨h.lo, h.hi, h.c, h.s, h.y, h.fr⟩
theorem UM.setS (h : UM w b x) {r : Nat} (hr : r < 16) (v : Int) : UM (w.setCell ⟨b, 1 + r, none⟩ (.int .i64 v)) b ⟨x.n, putF x.s r v, x.b⟩ :=
  ⟨h.lo, h.hi, setCell_other h.c (addr_ne_off (by omega)), fun i hi => by
    by_cases e : i = r
    · subst e; rw [setCell_same (h.s i hi)]; dsimp only; rw [putF_same]
    · rw [setCell_other (h.s i hi) (addr_ne_off (by omega))]; dsimp only; rw [putF_other _ _ e], fun i hi => setCell_other (h.y i hi) (addr_ne_off (by omega)), fun k => by simpa using h.fr k⟩
end
theorem size_any {w : World} {b : Nat} {x : MS} (h : UM w b x) :
    Calls Try.prog 41 #[.pointer (some ⟨b, 0, none⟩)] w fun e w' => e = .returned (.int .i64 (16 * (x.n : Int))) ∧ w = w' := by
  have c := h.c
  have h1 := h.hi
  have hw : IntKind.i64.wrap ((x.n : Int) * 16) = 16 * (x.n : Int) := by rw [IntWalk.i64_in _ (by omega)]; omega
  clear h
  go_enter Try.func41, Try.ntmps41
  go_wp2
  go_ret
  exact ⟨rfl, rfl⟩
theorem next_any (t : Nat) (ht : t < 1000000) {u : Nat} (hu : 16 * (t / 16) + 16 = u) (w : World) :
    Calls Try.prog 38 #[.int .i64 (t : Int)] w fun e w' => e = .returned (.int .i64 (u : Int)) ∧ w = w' := by
  have hw1 : IntKind.i64.wrap ((t : Int) + 16) = (t : Int) + 16 := IntWalk.i64_in _ (by omega)
  obtain ⟨r, hr⟩ : ∃ r : Nat, r = t % 16 := ⟨_, rfl⟩
  have hm : Int.tmod (t : Int) 16 = (r : Int) := by rw [Int.tmod_eq_emod_of_nonneg (by omega)]; omega
  have hw2 : IntKind.i64.wrap ((t : Int) + 16 - (r : Int)) = (u : Int) := by rw [IntWalk.i64_in _ (by omega)]; omega
  clear ht hu hr
  go_enter Try.func38, Try.ntmps38
  go_wp2
  go_ret
  exact ⟨rfl, rfl⟩
theorem st_in {w : World} {b : Nat} {x : MS} (h : UM w b x) {k : Nat} (hk : k < x.n) :
    Calls Try.prog 39 #[.pointer (some ⟨b, 0, none⟩), .int .i64 (k : Int)] w fun e w' => e = .returned (.tuple #[.pointer (some ⟨b, 1 + k, none⟩), .int .i64 0]) ∧ w = w' := by
  have c := h.c
  have h1 := h.hi
  have hk16 : k < 16 := by omega
  have hk16' : (k : Int) < 16 := by omega
  have hge : decide ((k : Int) ≥ (x.n : Int)) = false := decide_eq_false (by omega)
  have hneg : decide ((k : Int) < 0) = false := decide_eq_false (by omega)
  clear h
  go_enter Try.func39, Try.ntmps39
  go_wp2
  go_ret2
  exact ⟨rfl, rfl⟩
theorem st_out {w : World} {b : Nat} {x : MS} (h : UM w b x) {p : Int} (hp : ¬ (0 ≤ p ∧ p < x.n)) :
    Calls Try.prog 39 #[.pointer (some ⟨b, 0, none⟩), .int .i64 p] w fun e w' => e = .returned (.tuple #[.pointer none, .int .i64 2]) ∧ w = w' := by
  have c := h.c
  by_cases h0 : p < 0
  · clear h hp
    go_enter Try.func39, Try.ntmps39
    go_wp2
    go_ret2
    exact ⟨rfl, rfl⟩
  · have hge : decide (p ≥ (x.n : Int)) = true := decide_eq_true (by omega)
    clear h hp
    go_enter Try.func39, Try.ntmps39
    go_wp2
    go_ret2
    exact ⟨rfl, rfl⟩
theorem state_any {w : World} {b : Nat} {x : MS} (h : UM w b x) (p : Int) :
    Calls Try.prog 24 #[.pointer (some ⟨b, 0, none⟩), .int .i64 p] w fun e w' => e = .returned (.int .i64 (stateV x p)) ∧ w = w' := by
  by_cases hp : 0 ≤ p ∧ p < x.n
  · obtain ⟨k, rfl⟩ : ∃ k : Nat, p = (k : Int) := ⟨p.toNat, by omega⟩
    have hk : k < x.n := by omega
    have hi := h.hi
    have HS := Lib.hid (st_in h hk)
    have c := h.s k (by omega)
    rw [show stateV x (k : Int) = x.s k by unfold stateV; rw [if_pos hp]; rfl]
    clear h hp
    go_enter Try.func24, Try.ntmps24
    go_wp2_with (with_reducible refine HS.out.mono ?_; rintro e w' ⟨rfl, rfl⟩)
    go_ret
    exact ⟨rfl, rfl⟩
  · have HS := Lib.hid (st_out h hp)
    rw [show stateV x p = 2 by unfold stateV; rw [if_neg hp]]
    clear h hp
    go_enter Try.func24, Try.ntmps24
    go_wp2_with (with_reducible refine HS.out.mono ?_; rintro e w' ⟨rfl, rfl⟩)
    go_ret
    exact ⟨rfl, rfl⟩
theorem slice_run (b a m : Nat) (ham : a + m ≤ 256) (w : World) : ∃ o cp, (Instr.sliceAt 68 (.pointer (some ⟨b, 17, none⟩)) (some (.int .i64 (a : Int))) (some (.int .i64 ((a : Int) + (m : Int)))) none).run Try.prog w = .ok (.slice (some ⟨b, o, none⟩) m cp) w ∧ (0 < m → o = 17 + a) := by
  have hl : Try.prog.arrayLen 68 = 256 := by kernel_rfl
  have h := run_sliceAt_array_lh (P := Try.prog) w 68 ⟨b, 17, none⟩ (by kernel_rfl) .i64 .i64 (a : Int) ((a : Int) + (m : Int)) (by omega) (by omega) (by rw [hl]; omega)
  have hs : (sizeOf (Try.prog.elem 68)).run Try.prog w = .ok 1 w := by kernel_rfl
  rw [hs, hl, Result.andThen_ok, show (a : Int).toNat = a by omega, show ((a : Int) + (m : Int)).toNat = a + m by omega] at h
  unfold slicedAt at h
  rw [show a + m - a = m by omega] at h
  by_cases e : 256 = a
  · rw [if_pos e] at h
    exact ⟨_, _, h, fun hm => by omega⟩
  · rw [if_neg e, addr_add] at h
    exact ⟨_, _, h, fun _ => by omega⟩
/-- The memory's own bytes of a piece. -/
theorem piece_in {w : World} {b : Nat} {x : MS} (h : UM w b x) {a m : Nat} (ham : a + m ≤ 16 * x.n) :
    Calls Try.prog 37 #[.pointer (some ⟨b, 0, none⟩), .int .i64 (a : Int), .int .i64 (m : Int)] w fun e w' => ∃ o cp, e = .returned (.tuple #[.slice (some ⟨b, o, none⟩) m cp, .int .i64 0]) ∧ (0 < m → o = 17 + a) ∧ w = w' := by
  have HZ := Lib.hid (size_any h)
  have h1 := h.hi
  have ha0 : decide ((a : Int) < 0) = false := decide_eq_false (by omega)
  have hm0 : decide ((m : Int) < 0) = false := decide_eq_false (by omega)
  have hsub : IntKind.i64.wrap (16 * (x.n : Int) - (a : Int)) = 16 * (x.n : Int) - (a : Int) := IntWalk.i64_in _ (by omega)
  have hgt : decide (16 * (x.n : Int) - (a : Int) < (m : Int)) = false := decide_eq_false (by omega)
  have hadd : IntKind.i64.wrap ((a : Int) + (m : Int)) = (a : Int) + (m : Int) := IntWalk.i64_in _ (by omega)
  obtain ⟨o, cp, hsl, ho⟩ := slice_run b a m (by omega) w
  have HO := Lib.hid ho
  clear h ho h1 ham
  go_enter Try.func37, Try.ntmps37
  go_wp2_with (with_reducible refine HZ.out.mono ?_; rintro e w' ⟨rfl, rfl⟩)
  go_ret2
  exact ⟨o, cp, rfl, HO.out, rfl⟩
theorem piece_out {w : World} {b : Nat} {x : MS} (h : UM w b x) {a m : Int} (hr : a ≤ 9223372036854775807) (ham : ¬ wIn (16 * x.n) a m) :
    Calls Try.prog 37 #[.pointer (some ⟨b, 0, none⟩), .int .i64 a, .int .i64 m] w fun e w' => e = .returned (.tuple #[.slice none 0 0, .int .i64 2]) ∧ w = w' := by
  have HZ := Lib.hid (size_any h)
  have h1 := h.hi
  by_cases h0 : a < 0
  · clear h ham h1
    go_enter Try.func37, Try.ntmps37
    go_wp2
    go_ret2
    exact ⟨rfl, rfl⟩
  · by_cases h2 : m < 0
    · clear h ham h1
      go_enter Try.func37, Try.ntmps37
      go_wp2
      go_ret2
      exact ⟨rfl, rfl⟩
    · have hmax : IntKind.i64.wrap (16 * (x.n : Int) - a) = 16 * (x.n : Int) - a := IntWalk.i64_in _ (by omega)
      have hgt : decide (16 * (x.n : Int) - a < m) = true := decide_eq_true (by omega)
      clear h ham h1 hr
      go_enter Try.func37, Try.ntmps37
      go_wp2_with (with_reducible refine HZ.out.mono ?_; rintro e w' ⟨rfl, rfl⟩)
      go_ret2
      exact ⟨rfl, rfl⟩
end Go.Proofs.Ytcdolkbljheniaa

/-
  The laws' own picture: exit, ended; rows of 64 numbers.
-/
import Derived.Deep.MidRow
import Derived.Test.YtjoaigadlpndcaaDoorGrI
namespace Go.Proofs.YtjoaigadlpndcaaDoor
open Go.RowKit Go.Shelf
open rC (Th)

section
variable {w0 w : World} {base a L n bI : Nat} {d : Dm}
theorem exitB_at {x : SS} (h : GS x) {k : Nat} (hk : k < 64) : exitE x (k : Int) = (if x.d k = 0 then 6 else 0) ∧ (x.d k = 0 → exitS x (k : Int) = x) ∧ (x.d k ≠ 0 → exitS x (k : Int) = outS x k) := by
  have hE : exitE x (k : Int) = if x.d k = 0 then 6 else 0 := by unfold exitE; rw [if_pos (by omega), Int.toNat_natCast]
  refine ⟨hE, fun h0 => ?_, fun h0 => ?_⟩
  · unfold exitS; rw [if_neg (by rw [hE, if_pos h0]; decide)]
  · unfold exitS; rw [if_pos (by rw [hE, if_neg h0]), Int.toNat_natCast]
set_option maxRecDepth 100000 in
set_option maxHeartbeats 4000000 in
theorem in_exit (h : DL w0 w base a L n d) (hb : a < bI ∧ bI < L) (hi : IB w bI d.x) (r : Int) :
    Calls Tryd.prog 9 #[.pointer (some ⟨bI, 0, none⟩), .pointer (some ⟨a, 0, none⟩), .int .i64 r] w fun e w' => (∃ v, e = .returned v) ∧
      DL w0 w' base a L n ⟨exitS d.x (rW r : Int), d.f, d.gen, d.wnt, d.sc⟩ ∧ IB w' bI (exitS d.x (rW r : Int)) ∧ ChP (GI base a d.sc bI) w w' := by
  obtain ⟨hk, hu⟩ := rW_spec r
  obtain ⟨k, hkd⟩ : ∃ k, k = rW r := ⟨_, rfl⟩
  rw [← hkd] at hk hu ⊢
  have hd0 := h.gs.d0 k
  have hd8 := h.gs.d8 k
  obtain ⟨hE, hS0, hS1⟩ := exitB_at h.gs hk
  obtain ⟨u, hub⟩ : ∃ u, exitB d.x (k : Int) = u := ⟨_, rfl⟩
  have HC := Lib.hid (h.exit (k : Int) hub hE)
  have HI := Lib.hid hi
  have HB := Lib.hid (And.intro hb (h.own hb.1 hb.2))
  have hk' : (k : Int) < 64 := by omega
  have hwk : IntKind.i64.wrap (k : Int) = (k : Int) := IntWalk.i64_in _ (by omega)
  obtain ⟨U, hU⟩ : ∃ U, IntKind.u64.wrap r = U := ⟨_, rfl⟩
  rw [hU] at hu
  by_cases h0 : d.x.d k = 0
  · rw [if_pos h0, hS0 h0] at HC
    rw [hS0 h0]
    clear h hi hb hd0 hd8 h0 hE hS0 hS1 hkd hub
    go_enter Tryd.func9, Tryd.ntmps9
    go_wp2_with fail
    with_reducible refine HC.out.mono ?_
    rintro e w2 ⟨rfl, h2, hc2⟩
    have HD := Lib.hid h2
    have HI2 := Lib.hid (HI.out.chP hc2 HB.out.2)
    have HC2 := Lib.hid (hc2.mono (T := GI base a d.sc bI) fun k o => .inl o)
    clear h2 hc2
    go_wp2_with fail
    go_end0
    exact ⟨⟨_, rfl⟩, HD.out, HI2.out, HC2.out⟩
  · rw [if_neg h0, hS1 h0] at HC
    rw [hS1 h0]
    obtain ⟨v, hv⟩ : ∃ v, v = d.x.d k - 1 := ⟨_, rfl⟩
    have hgt : 0 < d.x.d k := by omega
    have hwd : IntKind.i64.wrap (d.x.d k - 1) = v := by rw [IntWalk.i64_in _ (by omega), hv]
    by_cases h1 : d.x.d k = 1
    · have hI : outS d.x k = ⟨d.x.n, putF d.x.d k 0, putF d.x.s k 0⟩ := by unfold outS; rw [if_pos h1, h1]; rfl
      have HIn := Lib.hid hI
      have H1 := Lib.hid h1
      clear h hi hb hd0 hd8 h0 hE hS0 hS1 hkd hub hI h1 hwd hgt hv
      have hw1 : IntKind.i64.wrap (1 - 1) = 0 := by decide
      go_enter Tryd.func9, Tryd.ntmps9
      go_wp2_with fail
      with_reducible refine HC.out.mono ?_
      rintro e w2 ⟨rfl, h2, hc2⟩
      have HD := Lib.hid h2
      have HI2 := Lib.hid (HI.out.chP hc2 HB.out.2)
      have HC2 := Lib.hid (hc2.mono (T := GI base a d.sc bI) fun k o => .inl o)
      have c := HI2.out.d k hk
      rw [H1.out] at c
      have f := HI2.out.fr k
      clear h2 hc2 HC HI
      go_wp2_with fail
      go_region
      obtain ⟨w3, hw3⟩ : ∃ W, W = (w2.setCell ⟨bI, k, none⟩ (.int .i64 0)).drew := ⟨_, rfl⟩
      have HI3 := Lib.hid (show IB w3 bI ⟨d.x.n, putF d.x.d k 0, d.x.s⟩ from by rw [hw3]; exact (HI2.out.setD hk 0).drew)
      have hp3 : ChP (fun i => i = bI) w2 w3 := by rw [hw3]; exact ((ChP.refl (fun i => i = bI) w2).setCell (p := ⟨bI, k, none⟩) (.inl rfl) _).drew
      have HP3 := Lib.hid hp3
      rw [← hw3]
      clear hw3 hp3 c f
      have c := HI3.out.d k hk
      dsimp only at c
      rw [putF_same] at c
      have c2 := HI3.out.s k hk
      have f2 := HI3.out.fr (64 + k)
      dsimp only at c2
      go_wp2_with fail
      have HI5 := Lib.hid (HI3.out.setS hk 0)
      have HP5 := Lib.hid (HP3.out.setCell (p := ⟨bI, 64 + k, none⟩) (.inl rfl) (.int .i64 0))
      clear c c2 f2
      go_end0
      refine ⟨⟨_, rfl⟩, ?_, ?_, ?_⟩
      · exact HD.out.same HP5.out (fun i e => by rw [e]; exact ⟨by have := HD.out.lo; have := HB.out.1.1; omega, HB.out.2⟩)
      · rw [HIn.out]; exact HI5.out
      · exact HC2.out.trans (HP5.out.mono fun i e => .inr e)
    · have hI : outS d.x k = ⟨d.x.n, putF d.x.d k v, d.x.s⟩ := by unfold outS; rw [if_neg h1, hv]
      have HIn := Lib.hid hI
      have hv0 : (v == 0) = false := by simp; omega
      clear h hi hb hd0 hd8 h0 hE hS0 hS1 hkd hub hI h1 hv
      go_enter Tryd.func9, Tryd.ntmps9
      go_wp2_with fail
      with_reducible refine HC.out.mono ?_
      rintro e w2 ⟨rfl, h2, hc2⟩
      have HD := Lib.hid h2
      have HI2 := Lib.hid (HI.out.chP hc2 HB.out.2)
      have HC2 := Lib.hid (hc2.mono (T := GI base a d.sc bI) fun k o => .inl o)
      have c := HI2.out.d k hk
      have f := HI2.out.fr k
      clear h2 hc2 HC HI
      go_wp2_with fail
      go_region
      obtain ⟨w3, hw3⟩ : ∃ W, W = (w2.setCell ⟨bI, k, none⟩ (.int .i64 v)).drew := ⟨_, rfl⟩
      have HI3 := Lib.hid (show IB w3 bI ⟨d.x.n, putF d.x.d k v, d.x.s⟩ from by rw [hw3]; exact (HI2.out.setD hk v).drew)
      have hp3 : ChP (fun i => i = bI) w2 w3 := by rw [hw3]; exact ((ChP.refl (fun i => i = bI) w2).setCell (p := ⟨bI, k, none⟩) (.inl rfl) _).drew
      have HP3 := Lib.hid hp3
      rw [← hw3]
      clear hw3 hp3 c f hwd hgt
      have c := HI3.out.d k hk
      dsimp only at c
      rw [putF_same] at c
      go_wp2_with fail
      go_end0
      refine ⟨⟨_, rfl⟩, ?_, ?_, ?_⟩
      · exact HD.out.same HP3.out (fun i e => by rw [e]; exact ⟨by have := HD.out.lo; have := HB.out.1.1; omega, HB.out.2⟩)
      · rw [HIn.out]; exact HI3.out
      · exact HC2.out.trans (HP3.out.mono fun i e => .inr e)
end

/-- A row of 64 numbers. -/
def rowL (g : Nat → Int) : List Value := (List.range 64).map fun i => .int .i64 (g i)
theorem rowL_len (g : Nat → Int) : (rowL g).length = 64 := by simp [rowL]
theorem rowL_at (g : Nat → Int) {i : Nat} (hi : i < 64) : (rowL g)[i]? = some (.int .i64 (g i)) := by simp [rowL, hi]
theorem rowL_one (g : Nat → Int) : ∀ v ∈ rowL g, v.oneCell' = true := fun v hv => by
  obtain ⟨i, _, rfl⟩ := List.mem_map.1 hv
  rfl
/-- Has every section of a picture ended? -/
def endedB (x : SS) (was : Nat → Int) : Bool := (List.range 64).all fun r => !(decide (0 < was r) && decide (x.s r = was r))
theorem ended_true {x : SS} {was : Nat → Int} : endedB x was = true ↔ ∀ r, r < 64 → ¬ (0 < was r ∧ x.s r = was r) := by
  unfold endedB
  rw [List.all_eq_true]
  simp only [List.mem_range, Bool.not_eq_true', Bool.and_eq_false_iff, decide_eq_false_iff_not]
  constructor
  · intro h r hr hh
    rcases h r hr with h1 | h1
    · exact h1 hh.1
    · exact h1 hh.2
  · intro h r hr
    by_cases h1 : 0 < was r
    · exact .inr fun h2 => h r hr ⟨h1, h2⟩
    · exact .inl h1
theorem ended_false {x : SS} {was : Nat → Int} {r : Nat} (hr : r < 64) (h1 : 0 < was r) (h2 : x.s r = was r) : endedB x was = false := by
  cases h : endedB x was
  · rfl
  · exact absurd ⟨h1, h2⟩ (ended_true.1 h r hr)
set_option maxRecDepth 100000 in
set_option maxHeartbeats 4000000 in
theorem in_ended {w : World} {bI : Nat} {x : SS} (hi : IB w bI x) (was : Nat → Int) :
    Calls Tryd.prog 14 #[.pointer (some ⟨bI, 0, none⟩), .agg (rowL was).toArray] w fun e w' => e = .returned (.bool (endedB x was)) ∧ Ch [] w w' := by
  have hal := (Ch.refl [] w).alloc (.cells (rowL was).toArray 27)
  have hc : ∀ i, i < 64 → (w.alloc (.cells (rowL was).toArray 27)).cell? ⟨w.heap.size, i, none⟩ = some (.int .i64 (was i)) := fun i hi => by
    rw [World.cell?_alloc_at _ _ _ _ rfl]
    simpa using rowL_at was hi
  have HI := Lib.hid (hi.ch hal)
  have HC := Lib.hid hc
  have HA := Lib.hid hal
  clear hi hc hal
  generalize hR : (rowL was).toArray = rv at *
  clear hR
  go_enter Tryd.func14, Tryd.ntmps14
  go_wp2_with fail
  obtain ⟨S, hS⟩ : ∃ S, S = w.heap.size := ⟨_, rfl⟩
  obtain ⟨w1, hw1⟩ : ∃ W, W = w.alloc (.cells rv 27) := ⟨_, rfl⟩
  rw [← hw1, ← hS] at HC
  rw [← hw1] at HI HA
  rw [← hw1, ← hS]
  clear hw1 hS
  go_loopw [5] (fun i wr => ∃ k : Nat, k ≤ 64 ∧ i = .int .i64 (k : Int) ∧ (∀ r, r < k → ¬ (0 < was r ∧ x.s r = was r)) ∧ Ch [] w1 wr) (fun i _ => 64 - (intOf i).toNat)
  case atStart => exact ⟨0, by omega, rfl, fun r hr => by omega, Ch.refl _ _⟩
  case round =>
    obtain ⟨k, hk, rfl, hall, hch⟩ := hrel
    by_cases hlt : k < 64
    · have hlt' : (k : Int) < 64 := by omega
      have c := (hch.cell (p := ⟨S, k, none⟩) (cell_lt (HC.out k hlt)) (by simp)).trans (HC.out k hlt)
      have e := (HI.out.ch hch).s k hlt
      have HCh := Lib.hid hch
      have HAl := Lib.hid hall
      have HW := Lib.hid (fun (h : ¬ (0 < was k ∧ x.s k = was k)) (r : Nat) (hr : r < k + 1) => show ¬ (0 < was r ∧ x.s r = was r) from by
        by_cases e : r = k
        · rw [e]; exact h
        · exact hall r (by omega))
      have HF := Lib.hid (fun (h1 : 0 < was k) (h2 : x.s k = was k) => ended_false (x := x) (was := was) hlt h1 h2)
      clear hch hall
      by_cases h0 : 0 < was k
      · have hgt : decide (was k > 0) = true := decide_eq_true h0
        by_cases h1 : x.s k = was k
        · have HE := Lib.hid (HF.out h0 h1)
          rw [h1] at e
          clear h0 h1 HW HF
          generalize was k = u at *
          have hee : (u == u) = true := by simp
          go_wp2_with fail
          go_quiet (fail)
          go_wp2_with fail
          go_ret
          rw [HE.out]
          exact ⟨rfl, HA.out.trans (HCh.out.drewN _)⟩
        · have HN := Lib.hid (HW.out (fun h => h1 h.2))
          have hee : (x.s k == was k) = false := by simpa using h1
          clear h0 h1 HW HF
          generalize was k = u at *
          generalize x.s k = v at *
          go_wp2_with fail
          go_quiet (fail)
          go_wp2_with fail
          go_roundw
          case rel => exact ⟨k + 1, by omega, by go_num, HN.out, HCh.out.drewN _⟩
          case measure => simp [intOf]; omega
      · have hgt : decide (was k > 0) = false := decide_eq_false h0
        have HN := Lib.hid (HW.out (fun h => h0 h.1))
        clear h0 HW HF
        generalize was k = u at *
        generalize x.s k = v at *
        go_wp2_with fail
        go_quiet (fail)
        go_wp2_with fail
        go_roundw
        case rel => exact ⟨k + 1, by omega, by go_num, HN.out, HCh.out.drewN _⟩
        case measure => simp [intOf]; omega
    · have HE := Lib.hid (ended_true.2 (fun r hr => hall r (by omega)))
      have HCh := Lib.hid hch
      clear hall hch
      go_wp2_with fail
      go_ret
      rw [HE.out]
      exact ⟨rfl, HA.out.trans HCh.out⟩
end Go.Proofs.YtjoaigadlpndcaaDoor

/-
  The laws' own picture of who is inside (inside): it goes with the domain's sections; enter, exit, ended.
-/
import Derived.Test.YtjoaigadlpndcaaDoorGrK
namespace Go.Proofs.YtjoaigadlpndcaaDoor
open Go.RowKit Go.Shelf
open rC (Th)

/-- The picture, in a block of 129 cells: depths, sections, how many began. -/
structure IB (w : World) (b : Nat) (x : SS) : Prop where
  d : ∀ i, i < 64 → w.cell? ⟨b, i, none⟩ = some (.int .i64 (x.d i))
  s : ∀ i, i < 64 → w.cell? ⟨b, 64 + i, none⟩ = some (.int .i64 (x.s i))
  c : w.cell? ⟨b, 128, none⟩ = some (.int .i64 x.n)
  fr : ∀ k, w.frozen? ⟨b, k, none⟩ = false
section
variable {w w' : World} {b : Nat} {x : SS}
theorem IB.lt (h : IB w b x) : b < w.heap.size := cell_lt h.c
theorem IB.same (h : IB w b x) (hs : w'.heap[b]? = w.heap[b]?) : IB w' b x :=
  have c : ∀ o, w'.cell? ⟨b, o, none⟩ = w.cell? ⟨b, o, none⟩ := fun o => World.cell?_of_block (a := ⟨b, o, none⟩) hs
  ⟨fun i hi => (c _).trans (h.d i hi), fun i hi => (c _).trans (h.s i hi), (c _).trans h.c, fun k => (World.frozen?_of_block (a := ⟨b, k, none⟩) hs).trans (h.fr k)⟩
theorem IB.chP {T : Nat → Prop} (h : IB w b x) (hc : ChP T w w') (hb : ¬ T b) : IB w' b x := h.same (hc.block b h.lt hb)
theorem IB.ch (h : IB w b x) (hc : Ch [] w w') : IB w' b x := h.same (hc.block b h.lt (by simp))
theorem IB.setD (h : IB w b x) {r : Nat} (hr : r < 64) (v : Int) : IB (w.setCell ⟨b, r, none⟩ (.int .i64 v)) b ⟨x.n, putF x.d r v, x.s⟩ :=
  ⟨fun i hi => by
    by_cases e : i = r
    · subst e; rw [setCell_same (h.d i hi)]; dsimp only; rw [putF_same]
    · rw [setCell_other (h.d i hi) (addr_ne_off (by omega))]; dsimp only; rw [putF_other _ _ e], fun i hi => setCell_other (h.s i hi) (addr_ne_off (by omega)), setCell_other h.c (addr_ne_off (by omega)), fun k => by simpa using h.fr k⟩
theorem IB.setS (h : IB w b x) {r : Nat} (hr : r < 64) (v : Int) : IB (w.setCell ⟨b, 64 + r, none⟩ (.int .i64 v)) b ⟨x.n, x.d, putF x.s r v⟩ :=
  ⟨fun i hi => setCell_other (h.d i hi) (addr_ne_off (by omega)), fun i hi => by
    by_cases e : i = r
    · subst e; rw [setCell_same (h.s i hi)]; dsimp only; rw [putF_same]
    · rw [setCell_other (h.s i hi) (addr_ne_off (by omega))]; dsimp only; rw [putF_other _ _ e], setCell_other h.c (addr_ne_off (by omega)), fun k => by simpa using h.fr k⟩
theorem IB.setN (h : IB w b x) (v : Int) : IB (w.setCell ⟨b, 128, none⟩ (.int .i64 v)) b ⟨v, x.d, x.s⟩ :=
  ⟨fun i hi => setCell_other (h.d i hi) (addr_ne_off (by omega)), fun i hi => setCell_other (h.s i hi) (addr_ne_off (by omega)), setCell_same h.c, fun k => by simpa using h.fr k⟩
theorem IB.drew (h : IB w b x) : IB w.drew b x := ⟨h.d, h.s, h.c, h.fr⟩
end
/-- The cells of a new picture. -/
def insZ : Array Value := Array.replicate 129 (.int .i64 0)
theorem insZ_zero (w : World) : Sem.run Tryd.prog (zeroValue 29) w = .ok (.agg insZ) w := by kernel_rfl
theorem IB.new (w : World) (t : TypeId) : IB (w.alloc (.cells insZ t)) w.heap.size SS.zero := by
  have hc : ∀ i, i < 129 → (w.alloc (.cells insZ t)).cell? ⟨w.heap.size, i, none⟩ = some (.int .i64 0) := fun i hi => by
    rw [World.cell?_alloc_at _ _ _ _ rfl]
    simp [insZ, hi]
  exact ⟨fun i hi => hc i (by omega), fun i hi => hc _ (by omega), hc 128 (by decide), fun k => World.frozen?_alloc_new w _ _ _⟩
/-- A reader's number, as the laws take it. -/
def rW (r : Int) : Nat := (IntKind.u64.wrap r % 64).toNat
theorem rW_spec (r : Int) : rW r < 64 ∧ (IntKind.u64.wrap r).tmod 64 = ((rW r : Nat) : Int) := by
  have u0 : 0 ≤ IntKind.u64.wrap r := by rw [IntKind.wrap_u64]; omega
  rw [Int.tmod_eq_emod_of_nonneg u0]
  unfold rW
  constructor <;> omega

section
variable {w0 w : World} {base a L n bI : Nat} {d : Dm}
/-- What turns: the domain, and the picture. -/
def GI (base a : Nat) (sc : Option Sc) (bI k : Nat) : Prop := GO base a sc k ∨ k = bI
set_option maxRecDepth 100000 in
set_option maxHeartbeats 4000000 in
theorem in_enter (h : DL w0 w base a L n d) (hb : a < bI ∧ bI < L) (hi : IB w bI d.x) (hn : 0 ≤ d.x.n ∧ d.x.n ≤ 100000) (r : Int) :
    Calls Tryd.prog 8 #[.pointer (some ⟨bI, 0, none⟩), .pointer (some ⟨a, 0, none⟩), .int .i64 r] w fun e w' => (∃ v, e = .returned v) ∧
      DL w0 w' base a L n ⟨enterS d.x (rW r : Int), d.f, d.gen, d.wnt, d.sc⟩ ∧ IB w' bI (enterS d.x (rW r : Int)) ∧ ChP (GI base a d.sc bI) w w' := by
  obtain ⟨hk, hu⟩ := rW_spec r
  obtain ⟨k, hkd⟩ : ∃ k, k = rW r := ⟨_, rfl⟩
  rw [← hkd] at hk hu ⊢
  have hd0 := h.gs.d0 k
  have hd8 := h.gs.d8 k
  have hE : enterE d.x (k : Int) = if 8 ≤ d.x.d k then 3 else 0 := by unfold enterE; rw [if_pos (by omega), Int.toNat_natCast]
  have HC := Lib.hid (h.enter (k : Int) hn.2 rfl 3)
  rw [hE] at HC
  have HI := Lib.hid hi
  have HB := Lib.hid (And.intro hb (h.own hb.1 hb.2))
  have hk' : (k : Int) < 64 := by omega
  have hwk : IntKind.i64.wrap (k : Int) = (k : Int) := IntWalk.i64_in _ (by omega)
  obtain ⟨U, hU⟩ : ∃ U, IntKind.u64.wrap r = U := ⟨_, rfl⟩
  rw [hU] at hu
  by_cases h8 : 8 ≤ d.x.d k
  · rw [if_pos h8] at HC
    have hS : enterS d.x (k : Int) = d.x := by unfold enterS; rw [if_neg (by rw [hE, if_pos h8]; decide)]
    rw [hS] at HC ⊢
    clear h hi hb hd0 hd8 h8 hE hS hkd
    go_enter Tryd.func8, Tryd.ntmps8
    go_wp2_with fail
    with_reducible refine HC.out.mono ?_
    rintro e w2 ⟨rfl, h2, hc2⟩
    have HD := Lib.hid h2
    have HI2 := Lib.hid (HI.out.chP hc2 HB.out.2)
    have HC2 := Lib.hid (hc2.mono (T := GI base a d.sc bI) fun k o => .inl o)
    clear h2 hc2
    go_wp2_with fail
    go_end0
    exact ⟨⟨_, rfl⟩, HD.out, HI2.out, HC2.out⟩
  · rw [if_neg h8] at HC
    have hE0 : enterE d.x (k : Int) = 0 := by rw [hE, if_neg h8]
    have hS : enterS d.x (k : Int) = inS d.x k := by unfold enterS; rw [if_pos hE0]; rfl
    rw [hS] at HC ⊢
    by_cases h0 : d.x.d k = 0
    · have hI : inS d.x k = ⟨d.x.n + 1, putF d.x.d k 1, putF d.x.s k (d.x.n + 1)⟩ := by unfold inS; rw [if_pos h0, if_pos h0, h0]; rfl
      have HIn := Lib.hid hI
      have H0 := Lib.hid h0
      have hwn : IntKind.i64.wrap (d.x.n + 1) = d.x.n + 1 := IntWalk.i64_in _ (by omega)
      have hw1 : IntKind.i64.wrap (0 + 1) = 1 := by decide
      clear h hi hb hd0 hd8 h8 hE hS hkd hI hE0 h0
      go_enter Tryd.func8, Tryd.ntmps8
      go_wp2_with fail
      with_reducible refine HC.out.mono ?_
      rintro e w2 ⟨rfl, h2, hc2⟩
      have HD := Lib.hid h2
      have HI2 := Lib.hid (HI.out.chP hc2 HB.out.2)
      have HC2 := Lib.hid (hc2.mono (T := GI base a d.sc bI) fun k o => .inl o)
      have c := HI2.out.d k hk
      rw [H0.out] at c
      have f := HI2.out.fr k
      clear h2 hc2 HC HI
      go_wp2_with fail
      go_region
      obtain ⟨w3, hw3⟩ : ∃ W, W = (w2.setCell ⟨bI, k, none⟩ (.int .i64 1)).drew := ⟨_, rfl⟩
      have HI3 := Lib.hid (show IB w3 bI ⟨d.x.n, putF d.x.d k 1, d.x.s⟩ from by rw [hw3]; exact (HI2.out.setD hk 1).drew)
      have hp3 : ChP (fun i => i = bI) w2 w3 := by rw [hw3]; exact ((ChP.refl (fun i => i = bI) w2).setCell (p := ⟨bI, k, none⟩) (.inl rfl) _).drew
      have HP3 := Lib.hid hp3
      rw [← hw3]
      clear hw3 hp3 c f
      have c := HI3.out.d k hk
      dsimp only at c
      rw [putF_same] at c
      have c1 := HI3.out.c
      have f1 := HI3.out.fr 128
      dsimp only at c1
      go_wp2_with fail
      have HI4 := Lib.hid (HI3.out.setN (d.x.n + 1))
      have HP4 := Lib.hid (HP3.out.setCell (p := ⟨bI, 128, none⟩) (.inl rfl) (.int .i64 (d.x.n + 1)))
      obtain ⟨w4, hw4⟩ : ∃ W, W = w3.setCell ⟨bI, 128, none⟩ (.int .i64 (d.x.n + 1)) := ⟨_, rfl⟩
      rw [← hw4] at HI4 HP4 ⊢
      clear hw4 c c1 f1 HI3 HP3
      have c := HI4.out.c
      have c2 := HI4.out.s k hk
      have f2 := HI4.out.fr (64 + k)
      dsimp only at c c2
      go_region
      have HI5 := Lib.hid (HI4.out.setS hk (d.x.n + 1)).drew
      have HP5 := Lib.hid ((HP4.out.setCell (p := ⟨bI, 64 + k, none⟩) (.inl rfl) (.int .i64 (d.x.n + 1))).drew)
      clear c c2 f2
      go_wp2_with fail
      go_end0
      refine ⟨⟨_, rfl⟩, ?_, ?_, ?_⟩
      · exact HD.out.same HP5.out (fun i e => by rw [e]; exact ⟨by have := HD.out.lo; have := HB.out.1.1; omega, HB.out.2⟩)
      · rw [HIn.out]; exact HI5.out
      · exact HC2.out.trans (HP5.out.mono fun i e => .inr e)
    · have hI : inS d.x k = ⟨d.x.n, putF d.x.d k (d.x.d k + 1), d.x.s⟩ := by unfold inS; rw [if_neg h0, if_neg h0]
      have HIn := Lib.hid hI
      have hwd : IntKind.i64.wrap (d.x.d k + 1) = d.x.d k + 1 := IntWalk.i64_in _ (by omega)
      obtain ⟨v, hv⟩ : ∃ v, v = d.x.d k + 1 := ⟨_, rfl⟩
      have hv1 : (v == 1) = false := by simp; omega
      rw [← hv] at hwd
      have HV := Lib.hid hv
      clear h hi hb hd0 hd8 h8 hE hS hkd hI hE0 h0 hv
      go_enter Tryd.func8, Tryd.ntmps8
      go_wp2_with fail
      with_reducible refine HC.out.mono ?_
      rintro e w2 ⟨rfl, h2, hc2⟩
      have HD := Lib.hid h2
      have HI2 := Lib.hid (HI.out.chP hc2 HB.out.2)
      have HC2 := Lib.hid (hc2.mono (T := GI base a d.sc bI) fun k o => .inl o)
      have c := HI2.out.d k hk
      have f := HI2.out.fr k
      have hsum : IntKind.i64.wrap (d.x.d k + 1) = v := by rw [← HV.out]; exact hwd
      clear h2 hc2 HC HI hwd
      go_wp2_with fail
      go_region
      obtain ⟨w3, hw3⟩ : ∃ W, W = (w2.setCell ⟨bI, k, none⟩ (.int .i64 v)).drew := ⟨_, rfl⟩
      have HI3 := Lib.hid (show IB w3 bI ⟨d.x.n, putF d.x.d k v, d.x.s⟩ from by rw [hw3]; exact (HI2.out.setD hk v).drew)
      have hp3 : ChP (fun i => i = bI) w2 w3 := by rw [hw3]; exact ((ChP.refl (fun i => i = bI) w2).setCell (p := ⟨bI, k, none⟩) (.inl rfl) _).drew
      have HP3 := Lib.hid hp3
      rw [← hw3]
      clear hw3 hp3 c f hsum
      have c := HI3.out.d k hk
      dsimp only at c
      rw [putF_same] at c
      go_wp2_with fail
      go_end0
      refine ⟨⟨_, rfl⟩, ?_, ?_, ?_⟩
      · exact HD.out.same HP3.out (fun i e => by rw [e]; exact ⟨by have := HD.out.lo; have := HB.out.1.1; omega, HB.out.2⟩)
      · rw [HIn.out, ← HV.out]; exact HI3.out
      · exact HC2.out.trans (HP3.out.mono fun i e => .inr e)
end
end Go.Proofs.YtjoaigadlpndcaaDoor

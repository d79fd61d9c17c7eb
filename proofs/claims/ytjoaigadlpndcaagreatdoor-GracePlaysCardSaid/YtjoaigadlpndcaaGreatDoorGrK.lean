/-
  A domain: the chapter's example; nil domains; GraceNil.
-/
import Derived.Test.YtjoaigadlpndcaaGreatDoorGrD
namespace Go.Proofs.YtjoaigadlpndcaaGreatDoor
open Go.RowKit Go.Shelf
open rC (Th)

/-- A domain, where it doesn't matter where its parts lie. -/
def DL (w0 w : World) (base a L n : Nat) (d : Dm) : Prop := ∃ top b A, GB w0 w base top b A a L n d
section
variable {w0 w w' : World} {base a L n : Nat} {d : Dm}
theorem DL.same {T : Nat → Prop} (h : DL w0 w base a L n d) (hc : ChP T w w') (hT : ∀ k, T k → w0.heap.size ≤ k ∧ ¬ GO base a d.sc k) : DL w0 w' base a L n d := by
  obtain ⟨top, b, A, h⟩ := h
  exact ⟨top, b, A, h.same hc hT⟩
theorem DL.quiet (h : DL w0 w base a L n d) (hc : Ch [] w w') : DL w0 w' base a L n d := by
  obtain ⟨top, b, A, h⟩ := h
  exact ⟨top, b, A, h.quiet hc⟩
theorem DL.ch (h : DL w0 w base a L n d) : Ch [] w0 w := by
  obtain ⟨top, b, A, h⟩ := h
  exact h.s.ch
theorem DL.gs (h : DL w0 w base a L n d) : GS d.x := by
  obtain ⟨top, b, A, h⟩ := h
  exact h.s.g
theorem DL.o_lt (h : DL w0 w base a L n d) {k : Nat} (hk : GO base a d.sc k) : k < w.heap.size := by
  obtain ⟨top, b, A, h⟩ := h
  exact h.o_lt hk
theorem DL.o_lo (h : DL w0 w base a L n d) {k : Nat} (hk : GO base a d.sc k) : w0.heap.size ≤ k := by
  obtain ⟨top, b, A, h⟩ := h
  exact h.o_lo hk
theorem DL.len (h : DL w0 w base a L n d) : ∀ i, i < n → (d.f i).length ≤ 64 := by
  obtain ⟨top, b, A, h⟩ := h
  exact h.l.len
/-- A block of the law's own, behind the domain's. -/
theorem DL.own (h : DL w0 w base a L n d) {k : Nat} (h1 : a < k) (h2 : k < L) : ¬ GO base a d.sc k := by
  obtain ⟨top, b, A, h⟩ := h
  rintro (h3 | ⟨s, e, rfl⟩)
  · omega
  · have := (h.sn s e).2.1; omega
/-- The law has laid more blocks. -/
theorem DL.lift {L' : Nat} (h : DL w0 w base a L n d) (hs : d.sc = none) (hL : L ≤ L') : DL w0 w base a L' n d := by
  obtain ⟨top, b, A, h⟩ := h
  exact ⟨top, b, A, h.c0, h.c1, h.c2, h.c3, h.c4, h.fr, h.s, h.l, h.lo, h.tb, h.ba, Nat.lt_of_lt_of_le h.al hL, fun s e => (by rw [hs] at e; cases e), h.tab⟩
theorem DL.al (h : DL w0 w base a L n d) : a < L := by
  obtain ⟨top, b, A, h⟩ := h
  exact h.al
theorem DL.lo (h : DL w0 w base a L n d) : w0.heap.size ≤ base ∧ base ≤ a := by
  obtain ⟨top, b, A, h⟩ := h
  exact ⟨h.lo, by have := h.base_b; have := h.ba; omega⟩
theorem DL.depth (h : DL w0 w base a L n d) (r : Int) {v : Int} (hv : dOf d.x r = v) :
    Calls Tryz.prog 17 #[.pointer (some ⟨a, 0, none⟩), .int .i64 r] w fun e w' => e = .returned (.int .i64 v) ∧ w = w' := by
  obtain ⟨top, b, A, h⟩ := h
  exact h.depth r hv
theorem DL.in (h : DL w0 w base a L n d) {m : Nat} (hm : mskN (inP d.x) = m) :
    Calls Tryz.prog 19 #[.pointer (some ⟨a, 0, none⟩)] w fun e w' => e = .returned (.int .u64 (m : Int)) ∧ DL w0 w' base a L n d ∧ Ch [] w w' := by
  obtain ⟨top, b, A, h⟩ := h
  exact (h.in hm).mono fun e w' ⟨h1, h2, h3⟩ => ⟨h1, ⟨top, b, A, h2⟩, h3⟩
theorem DL.exit (h : DL w0 w base a L n d) (r : Int) {u : Bool} {e : Int} (hu : exitB d.x r = u) (he : exitE d.x r = e) :
    Calls Tryz.prog 9 #[.pointer (some ⟨a, 0, none⟩), .int .i64 r] w fun e' w' => e' = .returned (.tuple #[.bool u, .int .i64 e]) ∧ DL w0 w' base a L n ⟨exitS d.x r, d.f, d.gen, d.wnt, d.sc⟩ ∧ ChP (GO base a d.sc) w w' := by
  obtain ⟨top, b, A, h⟩ := h
  exact (h.exit r hu he).mono fun e w' ⟨h1, h2, h3⟩ => ⟨h1, ⟨top, b, A, h2⟩, h3⟩
theorem DL.enter (h : DL w0 w base a L n d) (r : Int) (hn : d.x.n ≤ 100000) {e : Int} (he : enterE d.x r = e) (t : TypeId) :
    Calls Tryz.prog 7 #[.pointer (some ⟨a, 0, none⟩), .slice (some ⟨w.heap.size, 0, none⟩) 1 1] (w.alloc (.cells #[.int .i64 r] t)) fun e' w' => e' = .returned (.int .i64 e) ∧ DL w0 w' base a L n ⟨enterS d.x r, d.f, d.gen, d.wnt, d.sc⟩ ∧ ChP (GO base a d.sc) w w' := by
  obtain ⟨top, b, A, h⟩ := h
  exact (h.enter r hn he t).mono fun e w' ⟨h1, h2, h3⟩ => ⟨h1, ⟨top, b, A, h2⟩, h3⟩
/-- One callback more, of a slice that the call has made. -/
theorem DL.call1 (h : DL w0 w base a L n d) {c : Nat} (hc : c < n) (z : Int) (t : TypeId) :
    Calls Tryz.prog 11 #[.pointer (some ⟨a, 0, none⟩), .int .i64 (c : Int), .slice (some ⟨w.heap.size, 0, none⟩) 1 1] (w.alloc (.cells #[.int .i64 z] t)) fun e w' =>
      e = .returned (.int .i64 (if 64 < (d.f c).length + 1 then 3 else 0)) ∧ DL w0 w' base a L n ⟨d.x, updF d.f c ((d.f c ++ [fresh z]).take 64), d.gen, d.wnt, d.sc⟩ ∧ ChP (GO base a d.sc) w w' := by
  obtain ⟨top, b, A, h⟩ := h
  have hal := (Ch.refl [] w).alloc (.cells #[.int .i64 z] t)
  have ho : ∀ k, GO base a d.sc k → k < w.heap.size := fun k hk => h.o_lt hk
  have h1 := (h.quiet hal).call hc (cap := 1) (zs := [z]) (ints_one w z t) (by simp) (by decide) (fun _ x e o => by cases e; have := ho _ o; simp only at this; omega)
  exact h1.mono fun e w' ⟨h1, h2, h3⟩ => ⟨h1, ⟨top, b, A, h2⟩, (ChP.quiet hal).trans h3⟩
theorem DL.call2 (h : DL w0 w base a L n d) {c : Nat} (hc : c < n) (y z : Int) (t : TypeId) :
    Calls Tryz.prog 11 #[.pointer (some ⟨a, 0, none⟩), .int .i64 (c : Int), .slice (some ⟨w.heap.size, 0, none⟩) 2 2] (w.alloc (.cells #[.int .i64 y, .int .i64 z] t)) fun e w' =>
      e = .returned (.int .i64 (if 64 < (d.f c).length + 2 then 3 else 0)) ∧ DL w0 w' base a L n ⟨d.x, updF d.f c ((d.f c ++ [y, z].map fresh).take 64), d.gen, d.wnt, d.sc⟩ ∧ ChP (GO base a d.sc) w w' := by
  obtain ⟨top, b, A, h⟩ := h
  have hal := (Ch.refl [] w).alloc (.cells #[.int .i64 y, .int .i64 z] t)
  have ho : ∀ k, GO base a d.sc k → k < w.heap.size := fun k hk => h.o_lt hk
  have h1 := (h.quiet hal).call hc (cap := 2) (zs := [y, z]) (intsAt_two w y z t) (by simp) (by decide) (fun _ x e o => by cases e; have := ho _ o; simp only at this; omega)
  exact h1.mono fun e w' ⟨h1, h2, h3⟩ => ⟨h1, ⟨top, b, A, h2⟩, (ChP.quiet hal).trans h3⟩
theorem DL.call_out (h : DL w0 w base a L n d) {i : Int} (hi : i < 0 ∨ (n : Int) ≤ i) (v : Value) :
    Calls Tryz.prog 11 #[.pointer (some ⟨a, 0, none⟩), .int .i64 i, v] w fun e w' => e = .returned (.int .i64 2) ∧ w = w' := by
  obtain ⟨top, b, A, h⟩ := h
  exact h.call_out hi v
theorem DL.ticket (h : DL w0 w base a L n d) (hg : -1000000 ≤ d.gen ∧ d.gen ≤ 1000000) {v : Int} (hv : d.gen + 1 = v) :
    Calls Tryz.prog 13 #[.pointer (some ⟨a, 0, none⟩)] w fun e w' => e = .returned (.int .i64 v) ∧ DL w0 w' base a L n ⟨d.x, d.f, d.gen, v, d.sc⟩ ∧ ChP (GO base a d.sc) w w' := by
  subst hv
  obtain ⟨top, b, A, h⟩ := h
  exact (h.ticket hg).mono fun e w' ⟨h1, h2, h3⟩ => ⟨h1, ⟨top, b, A, h2⟩, h3⟩
theorem DL.gen_any (h : DL w0 w base a L n d) {v : Int} (hv : d.gen = v) :
    Calls Tryz.prog 21 #[.pointer (some ⟨a, 0, none⟩)] w fun e w' => e = .returned (.int .i64 v) ∧ w = w' := by
  obtain ⟨top, b, A, h⟩ := h
  exact h.gen_any hv
theorem DL.running (h : DL w0 w base a L n d) {u : Bool} (hu : d.sc.isSome = u) :
    Calls Tryz.prog 23 #[.pointer (some ⟨a, 0, none⟩)] w fun e w' => e = .returned (.bool u) ∧ w = w' := by
  obtain ⟨top, b, A, h⟩ := h
  exact h.running hu
theorem DL.done (h : DL w0 w base a L n d) (hg : -1000000 ≤ d.gen ∧ d.gen ≤ 1000000) {v : Int} (hv : doneV d = v) :
    Calls Tryz.prog 22 #[.pointer (some ⟨a, 0, none⟩)] w fun e w' => e = .returned (.int .i64 v) ∧ w = w' := by
  obtain ⟨top, b, A, h⟩ := h
  exact h.done hg hv
theorem DL.over (h : DL w0 w base a L n d) (hg : -1000000 ≤ d.gen ∧ d.gen ≤ 1000000) (t : Int) {u : Bool} (hu : decide (t ≤ doneV d) = u) :
    Calls Tryz.prog 29 #[.pointer (some ⟨a, 0, none⟩), .int .i64 t] w fun e w' => e = .returned (.bool u) ∧ w = w' := by
  obtain ⟨top, b, A, h⟩ := h
  exact h.over hg t hu
theorem DL.holdouts (h : DL w0 w base a L n d) {m : Nat} (hm : mskN (holdP d) = m) :
    Calls Tryz.prog 24 #[.pointer (some ⟨a, 0, none⟩)] w fun e w' => e = .returned (.int .u64 (m : Int)) ∧ w = w' := by
  obtain ⟨top, b, A, h⟩ := h
  exact h.holdouts hm
theorem DL.waiting (h : DL w0 w base a L n d) {v : Int} (hv : lnI (catL d.f n) = v) :
    Calls Tryz.prog 26 #[.pointer (some ⟨a, 0, none⟩)] w fun e w' => e = .returned (.int .i64 v) ∧ DL w0 w' base a L n d ∧ Ch [] w w' := by
  obtain ⟨top, b, A, h⟩ := h
  exact (h.waiting hv).mono fun e w' ⟨h1, h2, h3⟩ => ⟨h1, ⟨top, b, A, h2⟩, h3⟩
theorem DL.barrier (h : DL w0 w base a L n d) (hg : -1000000 ≤ d.gen ∧ d.gen ≤ 1000000) {v : Int} (hv : barV n d = v) :
    Calls Tryz.prog 27 #[.pointer (some ⟨a, 0, none⟩)] w fun e w' => e = .returned (.int .i64 v) ∧ DL w0 w' base a L n d ∧ Ch [] w w' := by
  obtain ⟨top, b, A, h⟩ := h
  exact (h.barrier hg hv).mono fun e w' ⟨h1, h2, h3⟩ => ⟨h1, ⟨top, b, A, h2⟩, h3⟩
/-- Poll: a row with what is told. -/
theorem DL.poll (h : DL w0 w base a L n d) (hLw : L ≤ w.heap.size) (hgen : 0 ≤ d.gen ∧ d.gen ≤ 1000000) {O : List Int} (hO : endO n d = O) :
    Calls Tryz.prog 16 #[.pointer (some ⟨a, 0, none⟩)] w fun e w' => ∃ ad cap, e = .returned (.slice ad O.length cap) ∧ w'.ownsRow w.heap.size 3 1 (.slice ad O.length cap) O.length (ivs O) ∧ ∃ c, w.heap.size ≤ c ∧ DL w0 w' base a L n (begD c n (endD d)) ∧ ChP (GO base a d.sc) w w' := by
  subst hO
  obtain ⟨top, b, A, h⟩ := h
  refine (h.poll hLw hgen).mono ?_
  rintro e w' ⟨v, rfl, h1, c, h2, h3, h4⟩
  obtain ⟨ad, cap, rfl⟩ := own_form h1
  exact ⟨ad, cap, rfl, h1, c, h2, ⟨top, b, A, h3⟩, h4⟩
end
theorem dl_new {w0 w : World} (hc : Ch [] w0 w) (hT : Mk.Tab w0) {n : Nat} (h0 : 1 ≤ n) (h1 : n ≤ 64) :
    Calls Tryz.prog 4 #[.int .i64 (n : Int)] w fun e w' => ∃ a, e = .returned (.tuple #[.pointer (some ⟨a, 0, none⟩), .int .i64 0]) ∧ DL w0 w' w.heap.size a w'.heap.size n dZ ∧ Ch [] w w' :=
  (gb_new hc hT h0 h1).mono fun _ _ ⟨top, b, A, a, h1, h2, h3⟩ => ⟨a, h1, ⟨top, b, A, h2⟩, h3⟩

/-- The example's domain, step by step. -/
def kg1 : SS := enterS SS.zero 5
def kg2 : SS := exitS kg1 5
def kf0 : Nat → List Th := fun _ => []
def kf1 : Nat → List Th := updF kf0 0 ((kf0 0 ++ [9].map fresh).take 64)
def kf2 : Nat → List Th := fun i => (kf1 i).map (giveT (0 + 1))
def kq1 : Nat → Bool := pollL (endF kg1.n kg1) 0 (inP kg1) 16
def kq2 : Nat → Bool := pollL (endF kg1.n kg2) (pollP 0 (inP kg1) 16) kq1 16
theorem kq1_cnt : cntN kq1 64 = 1 := by decide +kernel
theorem kq2_cnt : cntN kq2 64 = 0 := by decide +kernel
theorem kq_out : outN (0 + 1) kf2 2 = [9] := by decide +kernel
theorem k_asks : asks 2 (endD ⟨kg1, kf1, 0, 0, none⟩) = true := by decide +kernel
theorem k_end0 : endD ⟨kg1, kf1, 0, 0, none⟩ = ⟨kg1, kf1, 0, 0, none⟩ := rfl
theorem k_poll1 (c : Nat) : begD c 2 (endD ⟨kg1, kf1, 0, 0, none⟩) = ⟨kg1, kf2, 1, 0, some ⟨c, kg1.n, inP kg1, 0⟩⟩ := by
  unfold begD; rw [k_asks]; rfl
theorem k_end2 (c : Nat) : endD ⟨kg1, kf2, 1, 0, some ⟨c, kg1.n, inP kg1, 0⟩⟩ = ⟨kg1, kf2, 1, 0, some ⟨c, kg1.n, kq1, pollP 0 (inP kg1) 16⟩⟩ := by
  unfold endD
  dsimp only
  rw [if_neg (by rw [show pLeft _ _ = kq1 from rfl, kq1_cnt]; decide)]
  rfl
theorem k_out2 (c : Nat) : endO 2 ⟨kg1, kf2, 1, 0, some ⟨c, kg1.n, inP kg1, 0⟩⟩ = [] := by
  unfold endO
  dsimp only
  rw [if_neg (by rw [show pLeft _ _ = kq1 from rfl, kq1_cnt]; decide)]
theorem k_poll2 (c c' : Nat) : begD c' 2 (endD ⟨kg1, kf2, 1, 0, some ⟨c, kg1.n, inP kg1, 0⟩⟩) = ⟨kg1, kf2, 1, 0, some ⟨c, kg1.n, kq1, pollP 0 (inP kg1) 16⟩⟩ := by
  rw [k_end2]; rfl
theorem k_out3 (c : Nat) : endO 2 ⟨kg2, kf2, 1, 0, some ⟨c, kg1.n, kq1, pollP 0 (inP kg1) 16⟩⟩ = [9] := by
  unfold endO
  dsimp only
  rw [if_pos (by rw [show pLeft _ _ = kq2 from rfl]; exact kq2_cnt)]
  exact kq_out

theorem below_ch {w0 w w' : World} (hb : Below w0.heap.size w0 w) (hc : Ch [] w w') : Below w0.heap.size w0 w' := hb.trans (hc.below _ (by simp) hb.size)
theorem below_chP {w0 w w' : World} {T : Nat → Prop} (hb : Below w0.heap.size w0 w) (hc : ChP T w w') (hT : ∀ k, T k → w0.heap.size ≤ k) : Below w0.heap.size w0 w' := hb.trans (hc.below _ hT hb.size)

set_option maxRecDepth 100000 in
set_option maxHeartbeats 4000000 in
theorem known_any (w : World) (hT : Mk.Tab w) : Calls Tryz.prog 30 #[] w fun e w' => e = .returned (.bool true) ∧ Ch [] w w' := by
  have HN := Lib.hid (show Calls Tryz.prog 4 #[.int .i64 2] w _ from dl_new (n := 2) (Ch.refl [] w) hT (by decide) (by decide))
  clear hT
  go_enter Tryz.func30, Tryz.ntmps30
  go_wp2_with fail
  with_reducible refine HN.out.mono ?_
  rintro e w1 ⟨a, rfl, h1, hc1⟩
  have HE := Lib.hid (h1.enter 5 (by decide) (show enterE SS.zero 5 = 0 by decide) 3)
  clear h1 hc1 HN
  go_wp2_with fail
  with_reducible refine HE.out.mono ?_
  rintro e w2 ⟨rfl, h2, hc2⟩
  have h2 : DL w w2 w.heap.size a w1.heap.size 2 ⟨kg1, kf0, 0, 0, none⟩ := h2
  have HC := Lib.hid (show Calls Tryz.prog 11 #[.pointer (some ⟨a, 0, none⟩), .int .i64 0, .slice (some ⟨w2.heap.size, 0, none⟩) 1 1] (w2.alloc (.cells #[.int .i64 9] 3)) fun e w' =>
      e = .returned (.int .i64 0) ∧ DL w w' w.heap.size a w1.heap.size 2 ⟨kg1, kf1, 0, 0, none⟩ ∧ ChP (GO w.heap.size a none) w2 w' from h2.call1 (c := 0) (by decide) 9 3)
  have HL2 := Lib.hid hc2.size
  clear h2 hc2 HE
  go_wp2_with fail
  with_reducible refine HC.out.mono ?_
  rintro e w3 ⟨rfl, h3, hc3⟩
  have HL3 := Lib.hid (Nat.le_trans HL2.out hc3.size)
  have HP := Lib.hid (h3.poll HL3.out (by decide) (O := []) rfl)
  clear h3 hc3 HC HL2
  go_wp2_with fail
  with_reducible refine HP.out.mono ?_
  rintro e w4 ⟨ad4, cap4, rfl, -, c4, -, h4, hc4⟩
  rw [k_poll1] at h4
  have HL4 := Lib.hid (Nat.le_trans HL3.out hc4.size)
  have HGe := Lib.hid (h4.gen_any (v := 1) rfl)
  have HP := Lib.hid (h4.poll HL4.out (show (0 : Int) ≤ 1 ∧ (1 : Int) ≤ 1000000 by decide) (k_out2 c4))
  clear h4 hc4 HL3
  simp only [List.length_nil]
  go_wp2_with fail
  with_reducible refine HGe.out.mono ?_
  rintro e w' ⟨rfl, rfl⟩
  go_wp2_with fail
  with_reducible refine HP.out.mono ?_
  rintro e w5 ⟨ad5, cap5, rfl, -, c5, -, h5, hc5⟩
  rw [k_poll2] at h5
  have HL5 := Lib.hid (Nat.le_trans HL4.out hc5.size)
  have HX := Lib.hid (h5.exit 5 (u := true) (e := 0) (show exitB kg1 5 = true by decide +kernel) (show exitE kg1 5 = 0 by decide +kernel))
  clear h5 hc5 HL4 HGe
  simp only [List.length_nil]
  go_wp2_with fail
  with_reducible refine HX.out.mono ?_
  rintro e w6 ⟨rfl, h6, hc6⟩
  have HL6 := Lib.hid (Nat.le_trans HL5.out hc6.size)
  have h6 : DL w w6 w.heap.size a w1.heap.size 2 ⟨kg2, kf2, 1, 0, some ⟨c4, kg1.n, kq1, pollP 0 (inP kg1) 16⟩⟩ := h6
  have HP := Lib.hid (h6.poll HL6.out (show (0 : Int) ≤ 1 ∧ (1 : Int) ≤ 1000000 by decide) (k_out3 c4))
  clear h6 hc6 HL5
  go_wp2_with fail
  with_reducible refine HP.out.mono ?_
  rintro e w7 ⟨ad7, cap7, rfl, hrow, c7, -, h7, hc7⟩
  have hal := (Ch.refl [] w7).alloc (.cells #[.int .i64 9] 3)
  have HSm := Lib.hid (show Calls Tryz.prog 15 #[.slice ad7 1 cap7, .slice (some ⟨w7.heap.size, 0, none⟩) 1 1] (w7.alloc (.cells #[.int .i64 9] 3)) _ from
    same_eq ad7 (some ⟨w7.heap.size, 0, none⟩) cap7 1 [9] _ (by simp) ((ints_own hrow).1.ch hal) (ints_one w7 9 _))
  have HC7 := Lib.hid (h7.ch.trans hal)
  clear hrow h7 hc7 hal HP
  simp only [List.length_singleton]
  go_wp2_with fail
  with_reducible refine HSm.out.mono ?_
  rintro e w8 ⟨rfl, m, rfl⟩
  go_wp2_with fail
  go_ret
  exact ⟨rfl, HC7.out.drewN _⟩
end Go.Proofs.YtjoaigadlpndcaaGreatDoor

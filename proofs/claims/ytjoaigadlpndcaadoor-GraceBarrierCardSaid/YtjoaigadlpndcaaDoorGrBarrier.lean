/-
  The law GraceBarrier, walked.
-/
import Derived.Test.YtjoaigadlpndcaaDoorGrL
namespace Go.Proofs.YtjoaigadlpndcaaDoor
open Go.RowKit Go.Shelf
open rC (Th)

/-- One of the callbacks ahead of the barrier? -/
def is1 (z : Int) : Bool := decide (z = 1)
def onesI (A : Nat → List Int) : Nat := (catI A 4).countP is1
theorem onesI_nil : onesI nilI = 0 := by unfold onesI; rw [catI_nil]; rfl
theorem onesI_add (B : Nat → List Int) {c : Nat} (hc : c < 4) (z : Int) : onesI (addI B c z) = onesI B + (if z = 1 then 1 else 0) := by
  unfold onesI
  rw [(catI_add B c z 4 hc).countP_eq, List.countP_cons]
  simp [is1]
theorem onesI_le (A : Nat → List Int) : onesI A ≤ (catI A 4).length := List.countP_le_length
/-- The last generation that is done. -/
def dnL (l : LS) : Int := if l.sc.isSome = true then l.gen - 1 else l.gen
theorem dn_is (l : LS) : doneV (dmOf l) = dnL l := rfl
/-- Behind a barrier b, while wN of the callbacks that there were aren't told: where they are. -/
structure BW (l : LS) (b : Int) (wN : Nat) : Prop where
  cnt : onesI l.A + onesI l.B = wN
  ways : (wN = 0 ∧ b ≤ dnL l) ∨ (0 < wN ∧ onesI l.B = 0 ∧ b = l.gen ∧ l.sc.isSome = true) ∨ (0 < onesI l.B ∧ b = l.gen + 1)
theorem BW.over {l : LS} {b : Int} {wN : Nat} (h : BW l b wN) : decide (b ≤ doneV (dmOf l)) = decide (wN = 0) := by
  rw [dn_is, decide_eq_decide]
  have hc := h.cnt
  rcases h.ways with ⟨h1, h2⟩ | ⟨h1, h2, h3, h4⟩ | ⟨h1, h2⟩
  · omega
  · unfold dnL
    rw [if_pos h4]
    omega
  · have : dnL l ≤ l.gen := by unfold dnL; split <;> omega
    omega
theorem BW.keep {l l' : LS} {b : Int} {wN : Nat} (h : BW l b wN) (hA : l'.A = l.A) (hB : l'.B = l.B) (hg : l'.gen = l.gen) (hs : l'.sc = l.sc) : BW l' b wN := by
  obtain ⟨h1, h2⟩ := h
  refine ⟨by rw [hA, hB]; exact h1, ?_⟩
  unfold dnL at h2 ⊢
  rw [hB, hg, hs]
  exact h2
theorem BW.add {l : LS} {b : Int} {wN : Nat} (h : BW l b wN) {c : Nat} (hc : c < 4) : BW (l.add c 2) b wN := by
  have e : onesI (addI l.B c 2) = onesI l.B := by rw [onesI_add _ hc]; rfl
  obtain ⟨h1, h2⟩ := h
  refine ⟨?_, ?_⟩
  · show onesI l.A + onesI (addI l.B c 2) = wN
    rw [e]; exact h1
  · show (wN = 0 ∧ b ≤ dnL l) ∨ (0 < wN ∧ onesI (addI l.B c 2) = 0 ∧ b = l.gen ∧ l.sc.isSome = true) ∨ (0 < onesI (addI l.B c 2) ∧ b = l.gen + 1)
    rw [e]; exact h2
/-- A beginning. -/
theorem BW.beg {l : LS} {b : Int} {wN : Nat} (h : BW l b wN) (hl : LI l) (c : Nat) : BW (begL c 4 l) b wN := by
  have hc := h.cnt
  rcases beg_ways c 4 l with ⟨hq, hs, e⟩ | ⟨hq, e⟩
  · have hA := hl.idle hs
    rw [hA, onesI_nil] at hc
    rw [e]
    refine ⟨by dsimp only; rw [onesI_nil]; omega, ?_⟩
    dsimp only
    rw [onesI_nil]
    have hd : dnL l = l.gen := by unfold dnL; rw [hs]; rfl
    rcases h.ways with ⟨h1, h2⟩ | ⟨h1, h2, h3, h4⟩ | ⟨h1, h2⟩
    · refine .inl ⟨h1, ?_⟩
      show b ≤ l.gen + 1 - 1
      omega
    · rw [hs] at h4; cases h4
    · exact .inr (.inl ⟨by omega, rfl, h2, rfl⟩)
  · rw [e]; exact h
theorem BW.poll {l : LS} {b : Int} {wN : Nat} (h : BW l b wN) (hl : LI l) (c : Nat) : BW (pollLS c 4 l) b (wN - (outL 4 l).countP is1) ∧ (outL 4 l).countP is1 ≤ wN := by
  have hcp := poll_cnt is1 c 4 hl
  have hc := h.cnt
  have hm : BW (endL l) b (wN - (outL 4 l).countP is1) := by
    rcases end_ways 4 l with ⟨e1, e2, _⟩ | ⟨s, hs, _, e1, e2⟩ | ⟨s, hs, _, e1, e2⟩
    · rw [e1, e2]; exact h
    · rw [e1, e2]
      have e3 : (catI l.A 4).countP is1 = onesI l.A := rfl
      rw [e3]
      refine ⟨by dsimp only; rw [onesI_nil]; omega, ?_⟩
      dsimp only
      have hd : dnL l = l.gen - 1 := by unfold dnL; rw [hs]; rfl
      have hd2 : dnL { l with sc := none, A := nilI } = l.gen := rfl
      rcases h.ways with ⟨h1, h2⟩ | ⟨h1, h2, h3, h4⟩ | ⟨h1, h2⟩
      · exact .inl ⟨by omega, by rw [hd2]; omega⟩
      · exact .inl ⟨by omega, by rw [hd2]; omega⟩
      · exact .inr (.inr ⟨h1, h2⟩)
    · rw [e1, e2]
      refine ⟨hc, ?_⟩
      have hd : dnL l = dnL { l with sc := some ⟨s.c, s.t, leftL l s, pollP s.P s.p 16⟩ } := by unfold dnL; rw [hs]; rfl
      rcases h.ways with ⟨h1, h2⟩ | ⟨h1, h2, h3, h4⟩ | ⟨h1, h2⟩
      · exact .inl ⟨h1, by rw [← hd]; exact h2⟩
      · exact .inr (.inl ⟨h1, h2, h3, rfl⟩)
      · exact .inr (.inr ⟨h1, h2⟩)
  refine ⟨hm.beg (end_dm hl 4).2.2 c, ?_⟩
  have e3 : (catI l.A 4).countP is1 = onesI l.A := rfl
  have e4 : (catI l.B 4).countP is1 = onesI l.B := rfl
  omega
/-- Where all are such: the barrier. -/
def All1 (l : LS) : Prop := ∀ i, (∀ z ∈ l.A i, z = 1) ∧ ∀ z ∈ l.B i, z = 1
theorem ones_len {A : Nat → List Int} (h : ∀ i, ∀ z ∈ A i, z = 1) : onesI A = (catI A 4).length := by
  unfold onesI
  rw [List.countP_eq_length]
  intro z hz
  obtain ⟨i, _, hi⟩ := catI_mem.1 hz
  exact decide_eq_true (h i z hi)
theorem bar_is {l : LS} (h : LI l) : barV 4 (dmOf l) = if catI l.B 4 ≠ [] then l.gen + 1 else if catI l.A 4 = [] then 0 else l.gen := by
  unfold barV
  cases hs : l.sc with
  | none =>
    have hA := h.idle hs
    have h1 : zcI (catL (dmOf l).f 4) = ((catI l.B 4).length : Int) := by
      show zcI (catL (fAB l.gen l.A l.B) 4) = _
      rw [hA]; exact fAB_open0 _ _ _
    rw [h1, hA, catI_nil]
    by_cases hB : catI l.B 4 = []
    · rw [hB, if_neg (by simp), if_neg (by simp), if_pos rfl]
      have h2 := (catL_perm l.gen l.A l.B 4)
      rw [hA, catI_nil, hB] at h2
      show mxI (catL (fAB l.gen l.A l.B) 4) = 0
      rw [hA, mx_perm h2]
      rfl
    · rw [if_pos hB, if_pos (by have := List.length_pos_iff.2 hB; omega)]
      rfl
  | some s =>
    have hg := h.run s hs
    have h1 : zcI (catL (dmOf l).f 4) = ((catI l.B 4).length : Int) := fAB_open hg l.A l.B 4
    rw [h1]
    by_cases hB : catI l.B 4 = []
    · rw [hB, if_neg (by simp), if_neg (by simp)]
      exact fAB_newest hg l.A hB
    · rw [if_pos hB, if_pos (by have := List.length_pos_iff.2 hB; omega)]
      rfl
theorem bar_start {l : LS} (h : LI l) (h1 : All1 l) {wN : Nat} (hw : (catI l.A 4).length + (catI l.B 4).length = wN) : BW l (barV 4 (dmOf l)) wN := by
  rw [bar_is h]
  have hA := ones_len (A := l.A) (fun i => (h1 i).1)
  have hB := ones_len (A := l.B) (fun i => (h1 i).2)
  refine ⟨by omega, ?_⟩
  have h0 := h.g0
  by_cases b1 : catI l.B 4 = []
  · rw [if_neg (by simpa using b1)]
    rw [b1] at hB hw
    have hB0 : onesI l.B = 0 := hB
    by_cases a1 : catI l.A 4 = []
    · rw [if_pos a1]
      rw [a1] at hw
      refine .inl ⟨by simpa using hw.symm, ?_⟩
      unfold dnL
      cases hs : l.sc with
      | none => exact h0
      | some s => have := h.run s hs; show 0 ≤ l.gen - 1; omega
    · rw [if_neg a1]
      have hl := List.length_pos_iff.2 a1
      refine .inr (.inl ⟨by simp at hw; omega, hB0, rfl, ?_⟩)
      cases hs : l.sc with
      | none => exact absurd (by rw [h.idle hs, catI_nil]) a1
      | some s => rfl
  · rw [if_pos (by simpa using b1)]
    have hl := List.length_pos_iff.2 b1
    exact .inr (.inr ⟨by omega, rfl⟩)

/-- Behind k acts ahead of the barrier. -/
structure BE (w0 w : World) (base a L bI k : Nat) (l : LS) (wN : Nat) : Prop where
  b : EB w0 w base a L bI k l
  len : ∀ c, c < 4 → 4 * ((l.A c).length + (l.B c).length) + c ≤ k + 3
  cnt : (catI l.A 4).length + (catI l.B 4).length = wN
  wn : wN ≤ k
  one : All1 l
/-- Behind j acts more: b is the barrier. -/
structure BF (w0 w : World) (base a L bI k : Nat) (l : LS) (t : Int) (wN : Nat) : Prop where
  b : EB w0 w base a L bI (k + 40) l
  len : ∀ c, c < 4 → 4 * ((l.A c).length + (l.B c).length) + c ≤ k + 43
  bw : BW l t wN
  wn : wN ≤ 40
section
variable {w0 w w' : World} {base a L bI k : Nat} {l : LS} {wN : Nat} {b : Int}
theorem add_len {D : Nat} (h : ∀ c, c < 4 → 4 * ((l.A c).length + (l.B c).length) + c ≤ k + D) (hD : D % 4 = 3) {c : Nat} (hc : k % 4 = c) (z : Int) : ∀ i, i < 4 → 4 * (((l.add c z).A i).length + ((l.add c z).B i).length) + i ≤ k + 1 + D := by
  intro i hi
  have h1 := h i hi
  show 4 * ((l.A i).length + (addI l.B c z i).length) + i ≤ k + 1 + D
  unfold addI
  split
  · rename_i e
    rw [List.length_append, List.length_singleton]
    omega
  · omega
theorem BE.keep {l' : LS} (h : BE w0 w base a L bI k l wN) (hA : l'.A = l.A) (hB : l'.B = l.B) (hb : EB w0 w' base a L bI (k + 1) l') : BE w0 w' base a L bI (k + 1) l' wN :=
  ⟨hb, fun c hc => by rw [hA, hB]; have := h.len c hc; omega, by rw [hA, hB]; exact h.cnt, by have := h.wn; omega, fun i => by rw [hA, hB]; exact h.one i⟩
theorem BE.add (h : BE w0 w base a L bI k l wN) {c : Nat} (hc4 : c < 4) (hc : k % 4 = c) (hb : EB w0 w' base a L bI (k + 1) (l.add c 1)) : BE w0 w' base a L bI (k + 1) (l.add c 1) (wN + 1) := by
  refine ⟨hb, add_len h.len rfl hc 1, ?_, by have := h.wn; omega, fun i => ⟨(h.one i).1, fun z hz => ?_⟩⟩
  · have h1 := (catI_add l.B c 1 4 hc4).length_eq
    have h2 := h.cnt
    show (catI l.A 4).length + (catI (addI l.B c 1) 4).length = wN + 1
    simp at h1
    omega
  · have hz : z ∈ addI l.B c 1 i := hz
    unfold addI at hz
    split at hz
    · rcases List.mem_append.1 hz with h3 | h3
      · exact (h.one i).2 z h3
      · simpa using h3
    · exact (h.one i).2 z hz
theorem poll_all (c : Nat) (hl : LI l) (h : All1 l) : All1 (pollLS c 4 l) := by
  have hm : All1 (endL l) := by
    rcases end_ways 4 l with ⟨e1, _⟩ | ⟨s, _, _, e1, _⟩ | ⟨s, _, _, e1, _⟩
    · rw [e1]; exact h
    · rw [e1]; exact fun i => ⟨fun z hz => (by cases hz), (h i).2⟩
    · rw [e1]; exact h
  unfold pollLS
  rcases beg_ways c 4 (endL l) with ⟨_, _, e⟩ | ⟨_, e⟩
  · rw [e]; exact fun i => ⟨(hm i).2, fun z hz => by cases hz⟩
  · rw [e]; exact hm
theorem BE.poll (h : BE w0 w base a L bI k l wN) (c : Nat) (hb : EB w0 w' base a L bI (k + 1) (pollLS c 4 l)) : (outL 4 l).length ≤ wN ∧ BE w0 w' base a L bI (k + 1) (pollLS c 4 l) (wN - (outL 4 l).length) := by
  have h1 := poll_cnt (fun _ => true) c 4 h.b.li
  simp only [List.countP_true] at h1
  have h2 := h.cnt
  exact ⟨by omega, hb, fun i hi => by have := poll_len c 4 h.b.li i; have := h.len i hi; omega, by omega, by have := h.wn; omega, poll_all c h.b.li h.one⟩
theorem BF.keep {l' : LS} (h : BF w0 w base a L bI k l b wN) (hA : l'.A = l.A) (hB : l'.B = l.B) (hg : l'.gen = l.gen) (hs : l'.sc = l.sc) (hb : EB w0 w' base a L bI (k + 40 + 1) l') : BF w0 w' base a L bI (k + 1) l' b wN :=
  ⟨by rw [show k + 1 + 40 = k + 40 + 1 by omega]; exact hb, fun c hc => by rw [hA, hB]; have := h.len c hc; omega, h.bw.keep hA hB hg hs, h.wn⟩
theorem BF.add (h : BF w0 w base a L bI k l b wN) {c : Nat} (hc4 : c < 4) (hc : k % 4 = c) (hb : EB w0 w' base a L bI (k + 40 + 1) (l.add c 2)) : BF w0 w' base a L bI (k + 1) (l.add c 2) b wN :=
  ⟨by rw [show k + 1 + 40 = k + 40 + 1 by omega]; exact hb, add_len h.len rfl hc 2, h.bw.add hc4, h.wn⟩
theorem BF.poll (h : BF w0 w base a L bI k l b wN) (c : Nat) (hb : EB w0 w' base a L bI (k + 40 + 1) (pollLS c 4 l)) : BF w0 w' base a L bI (k + 1) (pollLS c 4 l) b (wN - (outL 4 l).countP is1) :=
  ⟨by rw [show k + 1 + 40 = k + 40 + 1 by omega]; exact hb, fun i hi => by have := poll_len c 4 h.b.li i; have := h.len i hi; omega, (h.bw.poll h.b.li c).1, by have := h.wn; omega⟩
end
theorem cnt_take {O : List Int} {i : Nat} (hi : i < O.length) : (O.take (i + 1)).countP is1 = (O.take i).countP is1 + (if O[i]?.getD 0 = 1 then 1 else 0) := by
  rw [List.take_succ_eq_append_getElem hi, List.countP_append, List.getElem?_eq_getElem hi]
  simp [is1, List.countP_cons]
theorem cnt_le (O : List Int) (i : Nat) : (O.take i).countP is1 ≤ O.countP is1 := (List.take_sublist i O).countP_le
set_option maxRecDepth 100000 in
set_option maxHeartbeats 8000000 in
theorem barrier_law (a0 : Option Addr) (len0 cap0 : Nat) (a1 : Option Addr) (len1 cap1 : Nat) (w : World) (hT : Mk.Tab w) (_ : len0 ≤ 9223372036854775807) (ha : ActsAt w a0 len0) (_ : len1 ≤ 9223372036854775807) (ha1 : ActsAt w a1 len1) :
    Calls Tryd.prog 5 #[.slice a0 len0 cap0, .slice a1 len1 cap1] w fun e w' => e = .returned (.bool true) ∧ Below w.heap.size w w' := by
  have HAc := Lib.hid ha
  have HA1 := Lib.hid ha1
  have HT := Lib.hid hT
  have HN := Lib.hid (show Calls Tryd.prog 7 #[.int .i64 4] w _ from dl_new (n := 4) (Ch.refl [] w) hT (by decide) (by decide))
  clear ha ha1 hT
  go_enter Tryd.func5, Tryd.ntmps5
  go_wp2_with fail
  with_reducible refine HN.out.mono ?_
  rintro e w1 ⟨a, rfl, h1, hc1⟩
  have hz := insZ_zero w1
  have H1 := Lib.hid h1
  clear h1 hc1 HN
  go_wp2_with fail
  obtain ⟨bI, hbI⟩ : ∃ b, b = w1.heap.size := ⟨_, rfl⟩
  obtain ⟨w2, hw2⟩ : ∃ W, W = w1.alloc (.cells insZ 29) := ⟨_, rfl⟩
  have hal : Ch [] w1 w2 := by rw [hw2]; exact (Ch.refl [] w1).alloc _
  have hI : IB w2 bI SS.zero := by rw [hw2, hbI]; exact IB.new w1 _
  have hs2 : w2.heap.size = bI + 1 := by rw [hw2, hbI]; simp
  have hd2 : DL w w2 w.heap.size a w2.heap.size 4 (dmOf lZ) := by
    rw [lZ_dm]
    exact (H1.out.quiet hal).lift rfl hal.size
  have HE0 := Lib.hid (show BE w w2 w.heap.size a w2.heap.size bI 0 lZ 0 from
    ⟨⟨hd2, hI, ⟨by rw [hbI]; exact H1.out.al, by omega, Nat.le_refl _⟩, LI.zero, by decide, by decide, fun _ _ => rfl, by decide⟩, fun c hc => by show 4 * (([] : List Int).length + ([] : List Int).length) + c ≤ 0 + 3; simp; omega, by rw [show lZ.A = nilI from rfl, show lZ.B = nilI from rfl, catI_nil]; rfl, by decide, fun i => ⟨fun z hz => (by cases hz), fun z hz => (by cases hz)⟩⟩)
  rw [← hw2, ← hbI]
  generalize hL : w2.heap.size = L at *
  clear hw2 hal hI hs2 hd2 hbI hz H1 hL
  generalize w.heap.size = S at *
  go_loopw [8, 9] (fun wa ix wr => ∃ (k : Nat) (l : LS) (wN : Nat), k ≤ 40 ∧ ix = .int .i64 (k : Int) ∧ wa = .int .i64 (wN : Int) ∧ BE w wr S a L bI k l wN) (fun _ ix _ => 40 - (intOf ix).toNat)
  case atStart => exact ⟨0, lZ, 0, by decide, rfl, rfl, HE0.out⟩
  case round =>
    obtain ⟨k, l, wN, hk, rfl, rfl, he⟩ := hrel
    clear HE0
    by_cases hgo : k < len0 ∧ k < 40
    · obtain ⟨hlt, hlt6⟩ := hgo
      have hlt' : (k : Int) < (len0 : Int) := by omega
      have hlt6' : (k : Int) < 40 := by omega
      rcases HAc.out.ch he.b.ch with h0 | ⟨g, off, rfl, hcc⟩
      · exfalso; omega
      · obtain ⟨K, R, C, Id, q0, q1, q2, q3⟩ := hcc k hlt
        obtain ⟨U, hU⟩ : ∃ U, IntKind.u64.wrap K = U := ⟨_, rfl⟩
        obtain ⟨M, hM⟩ : ∃ M, U.tmod 6 = M := ⟨_, rfl⟩
        have HE := Lib.hid he
        have HLt := Lib.hid (And.intro hlt hlt6)
        obtain ⟨w3, hw3⟩ : ∃ W, W = wr.alloc (.cells #[.int .i64 K, .int .i64 R, .int .i64 C, .int .i64 Id] 33) := ⟨_, rfl⟩
        have hal : Ch [] wr w3 := by rw [hw3]; exact (Ch.refl [] wr).alloc _
        have HE3 := Lib.hid (he.b.quiet hal)
        have HW3 := Lib.hid hw3
        clear hcc he hlt hlt6 hal hw3
        by_cases h0 : M = 0
        · subst h0
          have C1 := Lib.hid (HE3.out.enter (by omega) R)
          go_wp2_with fail
          rw [← HW3.out]
          with_reducible refine C1.out.mono ?_
          rintro e w4 ⟨⟨v, rfl⟩, hb, -⟩
          have HF := Lib.hid (HE.out.keep (l' := l.inn R) rfl rfl hb)
          clear hb C1
          go_wp2_with fail
          go_roundw
          case rel => exact ⟨k + 1, l.inn R, wN, by omega, by go_num, rfl, HF.out⟩
          case measure => simp [intOf]; omega
        by_cases h1 : M = 1
        · subst h1
          have C1 := Lib.hid (HE3.out.exit (by omega) R)
          clear h0
          go_wp2_with fail
          rw [← HW3.out]
          with_reducible refine C1.out.mono ?_
          rintro e w4 ⟨⟨v, rfl⟩, hb, -⟩
          have HF := Lib.hid (HE.out.keep (l' := l.out R) rfl rfl hb)
          clear hb C1
          go_wp2_with fail
          go_roundw
          case rel => exact ⟨k + 1, l.out R, wN, by omega, by go_num, rfl, HF.out⟩
          case measure => simp [intOf]; omega
        by_cases h2 : M = 2 ∨ M = 3
        · obtain ⟨c, hcd⟩ : ∃ c, k % 4 = c := ⟨_, rfl⟩
          have hc4 : c < 4 := by omega
          have hcu : Int.tmod (k : Int) 4 = (c : Int) := by rw [Int.tmod_eq_emod_of_nonneg (by omega)]; omega
          have hwn := HE.out.wn
          have hwc : IntKind.i64.wrap ((wN : Int) + 1) = ((wN + 1 : Nat) : Int) := by rw [IntWalk.i64_in _ (by omega)]; rfl
          have C1 := Lib.hid (HE3.out.call (by omega) hc4 1 (by have := HE.out.len c hc4; omega) 3)
          have HF0 := Lib.hid (fun w' => HE.out.add (w' := w') hc4 hcd)
          have hs3 : wr.heap.size + 1 = w3.heap.size := by rw [HW3.out]; simp
          have HS3 := Lib.hid hs3
          clear h0 h1 hcd hc4 hwn hs3
          rcases h2 with rfl | rfl
          all_goals
            go_wp2_with fail
            rw [← HW3.out, HS3.out]
            with_reducible refine C1.out.mono ?_
            rintro e w4 ⟨rfl, hb, -⟩
            have HF := Lib.hid (HF0.out w4 hb)
            clear hb C1 HF0
            go_wp2_with fail
            go_roundw
            case rel => exact ⟨k + 1, l.add c 1, wN + 1, by omega, by go_num, rfl, HF.out⟩
            case measure => simp [intOf]; omega
        · have b0 : (M == 0) = false := by simpa using h0
          have b1 : (M == 1) = false := by simpa using h1
          have b2 : (M == 2) = false := by simpa using fun e => h2 (.inl e)
          have b3 : (M == 3) = false := by simpa using fun e => h2 (.inr e)
          obtain ⟨O, hO⟩ : ∃ O, outL 4 l = O := ⟨_, rfl⟩
          have C1 := Lib.hid (HE3.out.poll (by omega) hO)
          have hwn := HE.out.wn
          have hwc : ∀ (c : Nat) (w' : World), EB w w' S a L bI (k + 1) (pollLS c 4 l) → IntKind.i64.wrap ((wN : Int) - (O.length : Int)) = ((wN - O.length : Nat) : Int) ∧ BE w w' S a L bI (k + 1) (pollLS c 4 l) (wN - O.length) := fun c w' hb => by
            have hp := HE.out.poll c hb
            rw [hO] at hp
            exact ⟨by rw [IntWalk.i64_in _ (by omega)]; omega, hp.2⟩
          have HWc := Lib.hid hwc
          clear h0 h1 h2 hO hwn hwc
          go_wp2_with fail
          rw [← HW3.out]
          with_reducible refine C1.out.mono ?_
          rintro e w4 ⟨ad, cap, rfl, -, -, c, -, hb, -⟩
          obtain ⟨hwt, hf⟩ := HWc.out c w4 hb
          have HF := Lib.hid hf
          clear hb C1 HWc hf
          generalize O.length = m at *
          go_wp2_with fail
          go_roundw
          case rel => exact ⟨k + 1, pollLS c 4 l, wN - m, by omega, by go_num, rfl, HF.out⟩
          case measure => simp [intOf]; omega
    · have hcond : ((k : Int) < (len0 : Int) ∧ ¬ (k : Int) < 40) ∨ ¬ (k : Int) < (len0 : Int) := by
        by_cases hkn : (k : Int) < (len0 : Int)
        · exact .inl ⟨hkn, by omega⟩
        · exact .inr hkn
      obtain ⟨t, ht⟩ : ∃ t, barV 4 (dmOf l) = t := ⟨_, rfl⟩
      have C1 := Lib.hid (he.b.d.barrier he.b.gb' ht)
      have hbw := bar_start he.b.li he.one he.cnt
      rw [ht] at hbw
      have HB := Lib.hid (fun (w' : World) (hc : Ch [] wr w') => show BF w w' S a L bI 0 l t wN from ⟨(he.b.quiet hc).up (by omega) (by omega), fun c hc => by have := he.len c hc; omega, hbw, by have := he.wn; omega⟩)
      clear he hgo hk HAc ht hbw
      rcases hcond with ⟨hq1, hq2⟩ | hq1
      all_goals
        go_wp2_with fail
        with_reducible refine C1.out.mono ?_
        rintro e w5 ⟨rfl, -, hc5⟩
        have HF0 := Lib.hid (HB.out w5 hc5)
        clear hq1 C1 hc5 HB
        try clear hq2
        go_wp2_with fail
        go_loopw [8, 12] (fun wa ix wr => ∃ (j : Nat) (m : LS) (vN : Nat), j ≤ 40 ∧ ix = .int .i64 (j : Int) ∧ wa = .int .i64 (vN : Int) ∧ BF w wr S a L bI j m t vN) (fun _ ix _ => 40 - (intOf ix).toNat)
        case atStart => exact ⟨0, l, wN, by decide, rfl, rfl, HF0.out⟩
        case round =>
          clear HF0
          obtain ⟨j, m, vN, hj, rfl, rfl, hf⟩ := hrel
          obtain ⟨u, hu⟩ : ∃ u, decide (vN = 0) = u := ⟨_, rfl⟩
          have CO := Lib.hid (fun (w' : World) (h : EB w w' S a L bI (j + 40) m) => h.over t (hf.bw.over.trans hu))
          have hue : ((vN : Int) == 0) = u := by
            rw [← hu, Bool.eq_iff_iff, beq_iff_eq, decide_eq_true_eq]
            omega
          have huu : (u != u) = false := by simp
          have huq : (u == u) = true := by simp
          clear hu
          by_cases hgo : j < len1 ∧ j < 40
          · obtain ⟨hlt, hlt6⟩ := hgo
            have hlt' : (j : Int) < (len1 : Int) := by omega
            have hlt6' : (j : Int) < 40 := by omega
            have C0 := Lib.hid (CO.out wr hf.b)
            rcases HA1.out.ch hf.b.ch with h0 | ⟨g, off, rfl, hcc⟩
            · exfalso; omega
            · obtain ⟨K, R, C, Id, q0, q1, q2, q3⟩ := hcc j hlt
              obtain ⟨U, hU⟩ : ∃ U, IntKind.u64.wrap K = U := ⟨_, rfl⟩
              obtain ⟨M, hM⟩ : ∃ M, U.tmod 6 = M := ⟨_, rfl⟩
              have HE := Lib.hid hf
              have HLt := Lib.hid (And.intro hlt hlt6)
              obtain ⟨w6, hw6⟩ : ∃ W, W = wr.alloc (.cells #[.int .i64 K, .int .i64 R, .int .i64 C, .int .i64 Id] 33) := ⟨_, rfl⟩
              have hal : Ch [] wr w6 := by rw [hw6]; exact (Ch.refl [] wr).alloc _
              have HE6 := Lib.hid (hf.b.quiet hal)
              have HW6 := Lib.hid hw6
              clear hcc hf hlt hlt6 hal hw6 CO
              go_wp2_with fail
              with_reducible refine C0.out.mono ?_
              rintro e w' ⟨rfl, rfl⟩
              clear C0
              by_cases h0 : M = 0
              · subst h0
                have C1 := Lib.hid (HE6.out.enter (by omega) R)
                go_wp2_with fail
                rw [← HW6.out]
                with_reducible refine C1.out.mono ?_
                rintro e w4 ⟨⟨v, rfl⟩, hb, -⟩
                have HF := Lib.hid (HE.out.keep (l' := m.inn R) rfl rfl rfl rfl hb)
                clear hb C1
                go_wp2_with fail
                go_roundw
                case rel => exact ⟨j + 1, m.inn R, vN, by omega, by go_num, rfl, HF.out⟩
                case measure => simp [intOf]; omega
              by_cases h1 : M = 1
              · subst h1
                have C1 := Lib.hid (HE6.out.exit (by omega) R)
                clear h0
                go_wp2_with fail
                rw [← HW6.out]
                with_reducible refine C1.out.mono ?_
                rintro e w4 ⟨⟨v, rfl⟩, hb, -⟩
                have HF := Lib.hid (HE.out.keep (l' := m.out R) rfl rfl rfl rfl hb)
                clear hb C1
                go_wp2_with fail
                go_roundw
                case rel => exact ⟨j + 1, m.out R, vN, by omega, by go_num, rfl, HF.out⟩
                case measure => simp [intOf]; omega
              by_cases h2 : M = 2 ∨ M = 3
              · obtain ⟨c, hcd⟩ : ∃ c, j % 4 = c := ⟨_, rfl⟩
                have hc4 : c < 4 := by omega
                have hcu : Int.tmod (j : Int) 4 = (c : Int) := by rw [Int.tmod_eq_emod_of_nonneg (by omega)]; omega
                have C1 := Lib.hid (HE6.out.call (by omega) hc4 2 (by have := HE.out.len c hc4; omega) 3)
                have HF0 := Lib.hid (fun w' => HE.out.add (w' := w') hc4 hcd)
                have hs6 : wr.heap.size + 1 = w6.heap.size := by rw [HW6.out]; simp
                have HS6 := Lib.hid hs6
                clear h0 h1 hcd hc4 hs6
                rcases h2 with rfl | rfl
                all_goals
                  go_wp2_with fail
                  rw [← HW6.out, HS6.out]
                  with_reducible refine C1.out.mono ?_
                  rintro e w4 ⟨rfl, hb, -⟩
                  have HF := Lib.hid (HF0.out w4 hb)
                  clear hb C1 HF0
                  go_wp2_with fail
                  go_roundw
                  case rel => exact ⟨j + 1, m.add c 2, vN, by omega, by go_num, rfl, HF.out⟩
                  case measure => simp [intOf]; omega
              · have b0 : (M == 0) = false := by simpa using h0
                have b1 : (M == 1) = false := by simpa using h1
                have b2 : (M == 2) = false := by simpa using fun e => h2 (.inl e)
                have b3 : (M == 3) = false := by simpa using fun e => h2 (.inr e)
                obtain ⟨O, hO⟩ : ∃ O, outL 4 m = O := ⟨_, rfl⟩
                have C1 := Lib.hid (HE6.out.poll (by omega) hO)
                have hsub := (HE.out.bw.poll HE.out.b.li 0).2
                rw [hO] at hsub
                have HSub := Lib.hid hsub
                have hol := HE.out.b.out_len
                rw [hO] at hol
                have HOl := Lib.hid hol
                have HWn := Lib.hid HE.out.wn
                have HF0 := Lib.hid (fun (c : Nat) (w' : World) (hb : EB w w' S a L bI (j + 40 + 1) (pollLS c 4 m)) => show BF w w' S a L bI (j + 1) (pollLS c 4 m) t (vN - O.countP is1) from by
                  have := HE.out.poll c hb
                  rwa [hO] at this)
                clear h0 h1 h2 hO hsub hol
                go_wp2_with fail
                rw [← HW6.out]
                with_reducible refine C1.out.mono ?_
                rintro e w7 ⟨ad, cap, rfl, hO7, -, c, -, hb, -⟩
                have HF7 := Lib.hid (HF0.out c w7 hb)
                have HO7 := Lib.hid hO7
                clear hb C1 HF0 hO7
                obtain ⟨q, hq⟩ : ∃ q, O.length = q := ⟨_, rfl⟩
                rw [hq]
                have hq4 : q ≤ 4096 := by have := HOl.out; omega
                have HQ := Lib.hid hq
                clear hq
                go_wp2_with fail
                go_loopw [8, 15] (fun wa kx wr => ∃ i : Nat, i ≤ q ∧ kx = .int .i64 (i : Int) ∧ wa = .int .i64 ((vN - (O.take i).countP is1 : Nat) : Int) ∧ wr = w7) (fun _ kx _ => q - (intOf kx).toNat)
                case atStart => exact ⟨0, by omega, rfl, by simp, rfl⟩
                case round =>
                  obtain ⟨i, hi, rfl, rfl, rfl⟩ := hrel
                  by_cases hlq : i < q
                  · have hlq' : (i : Int) < (q : Int) := by omega
                    rcases HO7.out with h0 | ⟨g2, off2, rfl, hcc⟩
                    · exfalso; have := HQ.out; rw [h0] at this; simp at this; omega
                    · have hz := hcc i (by rw [HQ.out]; exact hlq)
                      have hct := cnt_take (O := O) (i := i) (by rw [HQ.out]; exact hlq)
                      have hcl := cnt_le O (i + 1)
                      have hsb := HSub.out
                      have hwn := HWn.out
                      generalize O[i]?.getD 0 = z at *
                      by_cases hz1 : z = 1
                      · subst hz1
                        obtain ⟨p, hp⟩ : ∃ p, vN - (O.take i).countP is1 = p := ⟨_, rfl⟩
                        obtain ⟨p2, hp2⟩ : ∃ p, vN - (O.take (i + 1)).countP is1 = p := ⟨_, rfl⟩
                        rw [if_pos rfl] at hct
                        have hws : IntKind.i64.wrap ((p : Int) - 1) = (p2 : Int) := by rw [IntWalk.i64_in _ (by omega)]; omega
                        rw [hp]
                        have HP2 := Lib.hid hp2
                        clear hct hcl hsb hwn hcc hp hp2
                        go_wp2_with fail
                        go_roundw
                        case rel => exact ⟨i + 1, by omega, by go_num, by rw [HP2.out], by first | rfl | trivial⟩
                        case measure => simp [intOf]; omega
                      · rw [if_neg hz1] at hct
                        replace hct : (O.take (i + 1)).countP is1 = (O.take i).countP is1 := hct
                        have hz1' : (z == 1) = false := by simpa using hz1
                        have HCt := Lib.hid hct
                        obtain ⟨p, hp⟩ : ∃ p, vN - (O.take i).countP is1 = p := ⟨_, rfl⟩
                        rw [hp]
                        have HP := Lib.hid hp
                        clear hct hcl hsb hwn hcc hz1 hp
                        go_wp2_with fail
                        go_roundw
                        case rel => exact ⟨i + 1, by omega, by go_num, by rw [HCt.out, HP.out], by first | rfl | trivial⟩
                        case measure => simp [intOf]; omega
                  · have e : O.take i = O := List.take_of_length_le (by rw [HQ.out]; omega)
                    rw [e]
                    obtain ⟨p, hp⟩ : ∃ p, vN - O.countP is1 = p := ⟨_, rfl⟩
                    rw [hp]
                    have HF8 := Lib.hid (show BF w wr S a L bI (j + 1) (pollLS c 4 m) t p from by rw [← hp]; exact HF7.out)
                    clear hp e hi
                    go_wp2_with fail
                    go_roundw
                    case rel => exact ⟨j + 1, pollLS c 4 m, p, by omega, by go_num, rfl, HF8.out⟩
                    case measure => simp [intOf]; omega
          · have hcond : ((j : Int) < (len1 : Int) ∧ ¬ (j : Int) < 40) ∨ ¬ (j : Int) < (len1 : Int) := by
              by_cases hkn : (j : Int) < (len1 : Int)
              · exact .inl ⟨hkn, by omega⟩
              · exact .inr hkn
            have C1 := Lib.hid (known_any wr (tab_ch HT.out hf.b.ch (by simp)))
            have HB := Lib.hid hf.b
            clear hgo hj hf
            rcases hcond with ⟨hc1, hc2⟩ | hc1
            all_goals
              go_wp2_with fail
              with_reducible refine C1.out.mono ?_
              rintro e w6 ⟨rfl, hc6⟩
              have C2 := Lib.hid (CO.out w6 (HB.out.quiet hc6))
              have HC6 := Lib.hid (HB.out.ch.trans hc6)
              clear hc6 C1 CO
              go_wp2_with fail
              with_reducible refine C2.out.mono ?_
              rintro e w' ⟨rfl, rfl⟩
              go_wp2_with fail
              go_ret
              exact ⟨rfl, HC6.out.below _ (by simp) (Nat.le_refl _)⟩
end Go.Proofs.YtjoaigadlpndcaaDoor

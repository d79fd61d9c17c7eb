/-
  A bank of a law's own: each call of the laws. The chapter's example.
-/
import Derived.Test.YtnndofeomakpiaaGreatDoorBkG
import Derived.Test.YtnndofeomakpiaaGreatDoorBkH
import Derived.Test.YtnndofeomakpiaaGreatDoorBkI
import Derived.Test.YtnndofeomakpiaaGreatDoorBkJ
namespace Go.Proofs.YtnndofeomakpiaaGreatDoor
open Go.RowKit Go.Maps

attribute [local go_sem] Oper.semAt_some

/-- A bank that was made since w0; of what there was then nothing turned. -/
structure BL (w0 w : World) (K n : Nat) (f : Nat → Wh) : Prop where
  bk : ∃ G cap, BK w w0.heap.size K G cap n f
  bel : Below w0.heap.size w0 w
section
variable {w0 w w' : World} {K n : Nat} {f : Nat → Wh}
theorem BL.tab (h : BL w0 w K n f) (hT : Mk.Tab w0) : Mk.Tab w := hT.below h.bel (tab_lt hT)
theorem BL.quiet (h : BL w0 w K n f) (hc : Ch [] w w') : BL w0 w' K n f := by
  obtain ⟨G, cap, h1⟩ := h.bk
  exact ⟨⟨G, cap, h1.quiet hc⟩, h.bel.trans (hc.below _ (fun k hk => by simp at hk) h.bel.size)⟩
theorem BL.wi (h : BL w0 w K n f) {i : Nat} (hi : i < n) : WI (f i).now (f i).puts (f i).L := by obtain ⟨G, cap, h1⟩ := h.bk; exact (h1.wh i hi).wi
theorem BL.one (h : BL w0 w K n f) : ∀ i j, i < n → j < n → i ≠ j → ∀ t ∈ (f i).L, ∀ u ∈ (f j).L, t.id ≠ u.id := by obtain ⟨G, cap, h1⟩ := h.bk; exact h1.one
theorem BL.owned (h : BL w0 w K n f) {c : Nat} (hc : c < n) {t : Tm} (ht : t ∈ (f c).L) : ownO f n t.id = some c := by obtain ⟨G, cap, h1⟩ := h.bk; exact h1.own hc ht
theorem BL.le (h : BL w0 w K n f) : n ≤ 64 := by obtain ⟨G, cap, h1⟩ := h.bk; exact h1.n1
theorem BL.newB (w : World) {n : Nat} (h0 : 1 ≤ n) (h1 : n ≤ 64) {now : Int} (hn : Wd now) :
    Calls Tryz.prog 4 #[.int .i64 (n : Int), .int .u64 now] w fun e w' => ∃ K Bs, e = .returned (.tuple #[.pointer (some ⟨K, 0, none⟩), .int .i64 0]) ∧ BL w w' K n (newW Bs now) :=
  (bnew_ok h0 h1 hn w).mono fun _ _ ⟨K, G, cap, Bs, he, hb, hl⟩ => ⟨K, Bs, he, ⟨G, cap, hb⟩, hl⟩
theorem BL.step {T : Nat → Prop} {g : Nat → Wh} (h : BL w0 w K n f) {G cap : Nat} (hb : BK w' w0.heap.size K G cap n g) (hc : ChP T w w') (hT : ∀ k, T k → w0.heap.size ≤ k) : BL w0 w' K n g :=
  ⟨⟨G, cap, hb⟩, h.bel.trans (hc.below _ hT h.bel.size)⟩
theorem BL.put (h : BL w0 w K n f) {c : Nat} (hc : c < n) {id : Int} (h0 : 0 ≤ id) (h1 : id < 256) (ho : ownB f n id = false) {at' : Int} (ha : Wd at') (hm : (f c).now ≠ 18446744073709551615) (hp : (f c).puts < 4611686018427387904) :
    Calls Tryz.prog 8 #[.pointer (some ⟨K, 0, none⟩), .int .i64 (c : Int), .int .i64 id, .int .u64 at'] w fun e w' => e = .returned (.tuple #[spV (placeV (f c).now at'), .int .i64 0]) ∧
      ∃ S', BL w0 w' K n (updW f c { f c with S := S', puts := (f c).puts + 1, L := (f c).L ++ [⟨id, placeV (f c).now at', (f c).puts⟩] }) := by
  obtain ⟨G, cap, hb⟩ := h.bk
  exact (bput_ok hb hc h0 h1 ho ha hm hp).mono fun _ _ ⟨he, S', hb', _, hch⟩ => ⟨he, S', h.step hb' hch (fun k hk => ((hb.wh c hc).lt k hk).1)⟩
theorem BL.putMax (h : BL w0 w K n f) {c : Nat} (hc : c < n) {id : Int} (h0 : 0 ≤ id) (h1 : id < 256) (ho : ownB f n id = false) (at' : Int) (hm : (f c).now = 18446744073709551615) :
    Calls Tryz.prog 8 #[.pointer (some ⟨K, 0, none⟩), .int .i64 (c : Int), .int .i64 id, .int .u64 at'] w fun e w' => e = .returned (.tuple #[spz, .int .i64 12]) ∧ BL w0 w' K n f := by
  obtain ⟨G, cap, hb⟩ := h.bk
  exact (bput_max hb hc h0 h1 ho at' hm).mono fun _ _ ⟨he, hc⟩ => ⟨he, h.quiet hc⟩
theorem BL.putTwice (h : BL w0 w K n f) {c : Nat} (hc : c < n) {id : Int} (hk : wf64 id) (ho : ownB f n id = true) (at' : Int) :
    Calls Tryz.prog 8 #[.pointer (some ⟨K, 0, none⟩), .int .i64 (c : Int), .int .i64 id, .int .u64 at'] w fun e w' => e = .returned (.tuple #[spz, .int .i64 5]) ∧ BL w0 w' K n f := by
  obtain ⟨G, cap, hb⟩ := h.bk
  exact (bput_twice hb hc hk ho at').mono fun _ _ ⟨he, hc⟩ => ⟨he, h.quiet hc⟩
theorem BL.putOut (h : BL w0 w K n f) {cpu : Int} (hi : cpu < 0 ∨ (n : Int) ≤ cpu) (id at' : Int) :
    Calls Tryz.prog 8 #[.pointer (some ⟨K, 0, none⟩), .int .i64 cpu, .int .i64 id, .int .u64 at'] w fun e w' => e = .returned (.tuple #[spz, .int .i64 2]) ∧ BL w0 w' K n f := by
  obtain ⟨G, cap, hb⟩ := h.bk
  exact (bput_out hb hi id at').mono fun _ _ ⟨he, hc⟩ => ⟨he, h.quiet hc⟩
theorem BL.catch (h : BL w0 w K n f) (hT : Mk.Tab w0) {c : Nat} (hc : c < n) {x : Int} (hx : Wd x) :
    Calls Tryz.prog 14 #[.pointer (some ⟨K, 0, none⟩), .int .i64 (c : Int), .int .u64 x] w fun e w' => ∃ v, e = .returned v ∧ w'.ownsRow w.heap.size 3 1 v (outs (f c).L x).length ((outs (f c).L x).map iv) ∧
      BL w0 w' K n (catchW f c x) := by
  obtain ⟨G, cap, hb⟩ := h.bk
  exact (catch_in hb (h.tab hT) hc hx).mono fun _ _ ⟨v, he, hr, hb', hch⟩ => ⟨v, he, hr, h.step hb' hch (fun k hk => ((hb.wh c hc).lt k hk).1)⟩
theorem BL.late (h : BL w0 w K n f) (hT : Mk.Tab w0) (d : Int) :
    Calls Tryz.prog 22 #[.pointer (some ⟨K, 0, none⟩), .int .u64 d] w fun e W' =>
      e = .returned (.int .u64 ((Mk.withN 0 ((selC n fun i => lateB (f i).L d).map fun (i : Nat) => (i : Int)) : Nat) : Int)) ∧ Ch [] w W' := by
  obtain ⟨G, cap, hb⟩ := h.bk
  exact blate_any hb.bo (h.tab hT) d
theorem BL.find (h : BL w0 w K n f) {k : Int} (hk : wf64 k) :
    Calls Tryz.prog 16 #[.pointer (some ⟨K, 0, none⟩), .int .i64 k] w fun e W' =>
      e = .returned (.tuple #[.int .i64 ((ownC f n k : Nat) : Int), spV (ownS f n k), .bool (ownB f n k)]) ∧ Ch [] w W' := by
  obtain ⟨G, cap, hb⟩ := h.bk
  exact bfind_any hb.bo hk
theorem BL.len (h : BL w0 w K n f) : Calls Tryz.prog 21 #[.pointer (some ⟨K, 0, none⟩)] w fun e W' => e = .returned (.int .i64 ((lens f n : Nat) : Int)) ∧ Ch [] w W' := by
  obtain ⟨G, cap, hb⟩ := h.bk
  exact blen_any hb.bo
theorem BL.cpus (h : BL w0 w K n f) : Calls Tryz.prog 5 #[.pointer (some ⟨K, 0, none⟩)] w fun e W' => e = .returned (.int .i64 (n : Int)) ∧ W' = w := by
  obtain ⟨G, cap, hb⟩ := h.bk
  exact cpus_any hb
end
/-! ### The chapter's example -/
theorem ints_lit1 (w : World) (z : Int) (t : TypeId) : Mk.IntsAt (w.alloc (.cells #[.int .i64 z] t)) (some ⟨w.heap.size, 0, none⟩) [z] := ints_lit w [z] t
theorem place5 : placeV 0 5 = ⟨0, 5, 5, 5⟩ := by kernel_rfl
def kT : Tm := ⟨7, ⟨0, 5, 5, 5⟩, 0⟩
theorem kT_outs : outs [kT] 10 = [7] := by
  unfold outs
  rw [show upto [kT] 10 = [kT] by kernel_rfl, DL_one (L := [kT]) (by simp [Rising]) (d := 5) (by simp [kT])]
  rfl
theorem kT_late : lateB [kT] 10 = true := lateB_iff.2 ⟨kT, by simp, by decide⟩
theorem nil_late (d : Int) : lateB [] d = false := by
  unfold lateB
  rw [DL_nil]
  rfl
theorem kT_two {f : Nat → Wh} (h0 : (f 0).L = []) (h1 : (f 1).L = [kT]) : Mk.withN 0 ((selC 2 fun i => lateB (f i).L 10).map fun (i : Nat) => (i : Int)) = 2 := by
  rw [selC_yes (n := 1) (q := fun i => lateB (f i).L 10) (by simp only [h1]; exact kT_late), selC_no (n := 0) (q := fun i => lateB (f i).L 10) (by simp only [h0]; exact nil_late _)]
  kernel_rfl
set_option maxRecDepth 100000 in
set_option maxHeartbeats 1000000 in
theorem known_any (w : World) (hT : Mk.Tab w) : Calls Tryz.prog 23 #[] w fun e w' => e = .returned (.bool true) ∧ Below w.heap.size w w' := by
  have HT := Lib.hid hT
  have HN : Hid (Calls Tryz.prog 4 #[.int .i64 2, .int .u64 0] w fun e w' => ∃ K Bs, e = .returned (.tuple #[.pointer (some ⟨K, 0, none⟩), .int .i64 0]) ∧ BL w w' K 2 (newW Bs 0)) := Lib.hid (BL.newB w (n := 2) (by decide) (by decide) (now := 0) ⟨by decide, by decide⟩)
  clear hT
  go_enter Tryz.func23, Tryz.ntmps23
  go_wp2_with fail
  with_reducible refine HN.out.mono ?_
  rintro e w1 ⟨K, Bs, rfl, hb⟩
  have HP : Hid (Calls Tryz.prog 8 #[.pointer (some ⟨K, 0, none⟩), .int .i64 1, .int .i64 7, .int .u64 5] w1 fun e w' => e = .returned (.tuple #[.agg #[.int .i64 0, .int .i64 5, .int .u64 5, .int .u64 5], .int .i64 0]) ∧ ∃ f, BL w w' K 2 f ∧ (f 0).L = [] ∧ (f 1).L = [kT]) :=
    Lib.hid ((hb.put (c := 1) (by decide) (id := 7) (by decide) (by decide) (ownB_false fun i _ t ht => by cases ht) (at' := 5) ⟨by decide, by decide⟩ (by simp [newW]) (by simp [newW])).mono fun _ _ ⟨he, S', hb'⟩ => by
      have e5 : placeV (newW Bs 0 1).now 5 = ⟨0, 5, 5, 5⟩ := place5
      rw [e5] at he hb'
      exact ⟨he, _, hb', rfl, by rw [updW_same]; rfl⟩)
  clear hb
  go_frame
  go_wp2_with fail
  with_reducible refine HP.out.mono ?_
  rintro e w2 ⟨rfl, f, hb, h0, h1⟩
  have hb2 := hb.quiet ((Ch.refl [] w2).alloc (.cells #[.int .i64 0, .int .i64 5, .int .u64 5, .int .u64 5] 40))
  have ho : ownB f 2 7 = true := by
    have := hb2.owned (c := 1) (by decide) (t := kT) (by rw [h1]; simp)
    unfold ownB
    rw [show (7 : Int) = kT.id from rfl, this]
    rfl
  have HP2 : Hid (Calls Tryz.prog 8 #[.pointer (some ⟨K, 0, none⟩), .int .i64 0, .int .i64 7, .int .u64 9] (w2.alloc (.cells #[.int .i64 0, .int .i64 5, .int .u64 5, .int .u64 5] 40)) fun e w' => e = .returned (.tuple #[.agg #[.int .i64 0, .int .i64 0, .int .u64 0, .int .u64 0], .int .i64 5]) ∧ BL w w' K 2 f) :=
    Lib.hid (hb2.putTwice (c := 0) (by decide) (wf_small (by decide) (by decide)) ho 9)
  clear hb hb2 ho
  go_frame
  go_wp2_with fail
  with_reducible refine HP2.out.mono ?_
  rintro e w3 ⟨rfl, hb⟩
  have hb3 := hb.quiet ((Ch.refl [] w3).alloc (.cells #[.int .i64 0, .int .i64 0, .int .u64 0, .int .u64 0] 40))
  have HC : Hid (Calls Tryz.prog 14 #[.pointer (some ⟨K, 0, none⟩), .int .i64 0, .int .u64 10] (w3.alloc (.cells #[.int .i64 0, .int .i64 0, .int .u64 0, .int .u64 0] 40)) fun e w' => ∃ a cp, e = .returned (.slice a 0 cp) ∧ ∃ g, BL w w' K 2 g ∧ (g 0).L = [] ∧ (g 1).L = [kT]) :=
    Lib.hid ((hb3.catch HT.out (c := 0) (by decide) (x := 10) ⟨by decide, by decide⟩).mono fun _ _ ⟨v, he, hr, hb'⟩ => by
      rw [h0, show outs [] 10 = [] from outs_nil (by simp)] at hr
      obtain ⟨a, cp, rfl⟩ := own_form hr
      refine ⟨a, cp, he, _, hb', ?_, ?_⟩
      · unfold catchW
        rw [updW_same]
        simp only [h0]
        rfl
      · unfold catchW
        rw [updW_other f _ (by decide)]
        exact h1)
  clear hb hb3 h0 h1
  go_frame
  go_wp2_with fail
  with_reducible refine HC.out.mono ?_
  rintro e w4 ⟨a4, c4, rfl, g, hb, h0, h1⟩
  have HL : Hid (Calls Tryz.prog 22 #[.pointer (some ⟨K, 0, none⟩), .int .u64 10] w4 fun e w' => e = .returned (.int .u64 2) ∧ Ch [] w4 w') :=
    Lib.hid ((hb.late HT.out 10).mono fun _ _ ⟨he, hc⟩ => ⟨by rw [he, kT_two h0 h1]; rfl, hc⟩)
  have HB := Lib.hid hb
  clear hb
  go_frame
  go_wp2_with fail
  with_reducible refine HL.out.mono ?_
  rintro e w5 ⟨rfl, hc⟩
  have HC2 : Hid (Calls Tryz.prog 14 #[.pointer (some ⟨K, 0, none⟩), .int .i64 1, .int .u64 10] w5 fun e w' => ∃ a cp, e = .returned (.slice a 1 cp) ∧ Mk.IntsAt w' a [7] ∧ Below w.heap.size w w') :=
    Lib.hid (((HB.out.quiet hc).catch HT.out (c := 1) (by decide) (x := 10) ⟨by decide, by decide⟩).mono fun _ _ ⟨v, he, hr, hb'⟩ => by
      rw [h1, kT_outs] at hr
      obtain ⟨a, cp, rfl⟩ := own_form hr
      exact ⟨a, cp, he, (ints_own (zs := [7]) hr).1, hb'.bel⟩)
  clear hc h0 h1
  go_frame
  go_wp2_with fail
  with_reducible refine HC2.out.mono ?_
  rintro e w6 ⟨a6, c6, rfl, hi, hbel⟩
  have hc6 := (Ch.refl [] w6).alloc (.cells #[.int .i64 7] 3)
  have hi6 : Mk.IntsAt (w6.alloc (.cells #[.int .i64 7] 3)) a6 [7] := by
    rcases hi with h0 | ⟨b, o, rfl, h2⟩
    · exact .inl h0
    · exact .inr ⟨b, o, rfl, fun i hi => (hc6.cell (p := ⟨b, o + i, none⟩) (cell_lt (h2 i hi)) (by simp)).trans (h2 i hi)⟩
  have HS := Lib.hid (Mk.same_eq a6 _ c6 1 [7] _ (by decide) hi6 (ints_lit1 w6 7 3))
  have HBl := Lib.hid (hbel.alloc hbel.size (.cells #[.int .i64 7] 3))
  clear hi hbel hc6 hi6
  go_frame
  go_wp2_with fail
  refine HS.out.mono ?_
  rintro e w10 ⟨rfl, m, rfl⟩
  go_frame
  go_wp2
  go_ret
  exact ⟨rfl, below_drewN HBl.out _⟩
end Go.Proofs.YtnndofeomakpiaaGreatDoor

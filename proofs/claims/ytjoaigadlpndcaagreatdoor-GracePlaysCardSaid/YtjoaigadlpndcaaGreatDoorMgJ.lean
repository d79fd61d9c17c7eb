/-
  New.
  Lists of a law's own: what each call tells and leaves; nil ones; Same; the chapter's example holds.
-/
import Derived.Test.YtjoaigadlpndcaaGreatDoorMgI
namespace Go.Proofs.YtjoaigadlpndcaaGreatDoor
open Go.RowKit Go.Shelf Go.Maps
open rC (Th RL flat tv objT)

attribute [local go_sem] Oper.semAt_some

theorem infoP : (Tryz.prog.info? 98).map (fun i => (i.zero, i.size, i.bytes)) = some (some (.pointer none), 1, 8) := by kernel_rfl

/-- Lists that are being made: k of the rings are there. -/
structure NL (w wr : World) (A G n k : Nat) (R Q : Nat → Nat) : Prop where
  c0 : wr.cell? ⟨A, 0, none⟩ = some (.slice (some ⟨G, 0, none⟩) n n)
  c1 : wr.cell? ⟨A, 1, none⟩ = some (.int .i64 0)
  f1 : wr.frozen? ⟨A, 1, none⟩ = false
  row : ∀ i, i < k → wr.cell? ⟨G, i, none⟩ = some (.pointer (some ⟨R i, 0, none⟩))
  cs : ∀ i, i < n → ∃ v, wr.cell? ⟨G, i, none⟩ = some v
  fr : ∀ i, i < n → wr.frozen? ⟨G, i, none⟩ = false
  ring : ∀ i, i < k → RL wr (R i) (Q i) 64 []
  gl : w.heap.size ≤ G
  ga : G < A
  al : A < wr.heap.size
  aq : ∀ i, i < k → A < Q i
  qr : ∀ i, i < k → Q i < R i
  mono : ∀ i j, i < j → j < k → R i < Q j
  rt : ∀ i, i < k → R i < wr.heap.size
  bel : Below w.heap.size w wr
def setN (R : Nat → Nat) (k r : Nat) : Nat → Nat := fun i => if i = k then r else R i
theorem NL.step {w wr w2 w3 : World} {A G n k s : Nat} {R Q : Nat → Nat} (h : NL w wr A G n k R Q) (hk : k < n) (hd : Ch [] wr w2) (hs : s = w2.heap.size) {r : Nat} (hr : RL w3 r s 64 []) (hB : Below s w2 w3) (h1 : s < r) (h2 : r < w3.heap.size) :
    (w3.cell? ⟨A, 0, none⟩ = some (.slice (some ⟨G, 0, none⟩) n n) ∧ (∃ v, w3.cell? ⟨G, k, none⟩ = some v) ∧ w3.frozen? ⟨G, k, none⟩ = false) ∧ NL w (w3.setCell ⟨G, k, none⟩ (.pointer (some ⟨r, 0, none⟩))) A G n (k + 1) (setN R k r) (setN Q k s) := by
  subst hs
  have hc : Ch [] wr w3 := hd.trans (.of_below hB)
  have hA := h.al
  have hga := h.ga
  have hG : G < wr.heap.size := by omega
  have hs2 := hd.size
  obtain ⟨vk, hvk⟩ := h.cs k hk
  have k0 := (hc.cell (p := ⟨A, 0, none⟩) hA (by simp)).trans h.c0
  have k1 := (hc.cell (p := ⟨G, k, none⟩) hG (by simp)).trans hvk
  have k2 := (hc.frozen (p := ⟨G, k, none⟩) hG (by simp)).trans (h.fr k hk)
  have hset : Ch [G] w3 (w3.setCell ⟨G, k, none⟩ (.pointer (some ⟨r, 0, none⟩))) := (Ch.refl [G] w3).setCell (p := ⟨G, k, none⟩) (by simp) _
  have nA : A ∉ [G] := by simp; omega
  have hc' : Ch [G] wr (w3.setCell ⟨G, k, none⟩ (.pointer (some ⟨r, 0, none⟩))) := (hc.mono (by simp)).trans hset
  refine ⟨⟨k0, ⟨vk, k1⟩, k2⟩, ?_⟩
  have e1 : ∀ i, i < k → setN R k r i = R i ∧ setN Q k w2.heap.size i = Q i := fun i hi => by unfold setN; rw [if_neg (by omega), if_neg (by omega)]; exact ⟨rfl, rfl⟩
  have e2 : setN R k r k = r ∧ setN Q k w2.heap.size k = w2.heap.size := by unfold setN; rw [if_pos rfl, if_pos rfl]; exact ⟨rfl, rfl⟩
  refine ⟨(hc'.cell (p := ⟨A, 0, none⟩) hA nA).trans h.c0, (hc'.cell (p := ⟨A, 1, none⟩) hA nA).trans h.c1, (hc'.frozen (p := ⟨A, 1, none⟩) hA nA).trans h.f1, fun i hi => ?_, fun i hi => ?_, fun i hi => ?_, fun i hi => ?_, h.gl, h.ga, Nat.lt_of_lt_of_le hA hc'.size, fun i hi => ?_, fun i hi => ?_, fun i j hij hj => ?_, fun i hi => ?_, ?_⟩
  · by_cases e : i = k
    · subst e; rw [e2.1]; exact setCell_same k1
    · rw [(e1 i (by omega)).1]
      exact setCell_other ((hc.cell (p := ⟨G, i, none⟩) hG (by simp)).trans (h.row i (by omega))) (addr_ne_off (by omega))
  · by_cases e : i = k
    · subst e; exact ⟨_, setCell_same k1⟩
    · obtain ⟨v, hv⟩ := h.cs i hi
      exact ⟨v, setCell_other ((hc.cell (p := ⟨G, i, none⟩) hG (by simp)).trans hv) (addr_ne_off (by omega))⟩
  · simpa using (hc.frozen (p := ⟨G, i, none⟩) hG (by simp)).trans (h.fr i hi)
  · by_cases e : i = k
    · subst e; rw [e2.1, e2.2]; exact hr.ch hset (by simp; omega) (by simp; omega)
    · have hik : i < k := by omega
      rw [(e1 i hik).1, (e1 i hik).2]
      have h3 := h.aq i hik
      have h4 := h.qr i hik
      exact ((h.ring i hik).ch hc (by simp) (by simp)).ch hset (by simp; omega) (by simp; omega)
  · by_cases e : i = k
    · subst e; rw [e2.2]; omega
    · rw [(e1 i (by omega)).2]; exact h.aq i (by omega)
  · by_cases e : i = k
    · subst e; rw [e2.1, e2.2]; exact h1
    · rw [(e1 i (by omega)).1, (e1 i (by omega)).2]; exact h.qr i (by omega)
  · by_cases e : j = k
    · subst e; rw [e2.2, (e1 i hij).1]; have := h.rt i hij; omega
    · rw [(e1 i (by omega)).1, (e1 j (by omega)).2]; exact h.mono i j hij (by omega)
  · have : (w3.setCell ⟨G, k, none⟩ (.pointer (some ⟨r, 0, none⟩))).heap.size = w3.heap.size := by simp [World.setCell]
    rw [this]
    by_cases e : i = k
    · subst e; rw [e2.1]; exact h2
    · rw [(e1 i (by omega)).1]; have := h.rt i (by omega); have := hc.size; omega
  · exact h.bel.trans (hc'.below _ (fun j hj => by simp at hj; have := h.gl; omega) h.bel.size)

theorem new_bad {cpus : Int} (h : cpus < 1 ∨ 64 < cpus) (w : World) :
    Calls Tryz.prog 31 #[.int .i64 cpus] w fun e w' => e = .returned (.tuple #[.pointer none, .int .i64 2]) ∧ w = w' := by
  rcases Int.lt_or_le cpus 1 with h0 | h0
  · have hd : decide (cpus < 1) = true := decide_eq_true h0
    clear h h0
    go_enter Tryz.func31, Tryz.ntmps31
    go_wp2_with fail
    go_ret2
    exact ⟨rfl, rfl⟩
  · have hd : decide (cpus < 1) = false := decide_eq_false (by omega)
    have hd2 : decide (cpus > 64) = true := decide_eq_true (by omega)
    clear h h0
    go_enter Tryz.func31, Tryz.ntmps31
    go_wp2_with fail
    go_ret2
    exact ⟨rfl, rfl⟩

/-- What New tells and leaves. -/
def NewR (w : World) (n : Nat) (e : Ending) (w' : World) : Prop :=
  ∃ A G R Q, e = .returned (.tuple #[.pointer (some ⟨A, 0, none⟩), .int .i64 0]) ∧ CL w' w.heap.size w'.heap.size A G n 0 R Q (fun _ => []) ∧ Below w.heap.size w w'
set_option maxRecDepth 100000 in
set_option maxHeartbeats 4000000 in
theorem new_ok {n : Nat} (h0 : 1 ≤ n) (h1 : n ≤ 64) (w : World) :
    Calls Tryz.prog 31 #[.int .i64 (n : Int)] w (NewR w n) := by
  obtain ⟨i0, hi, hz0, hz1, hz2⟩ := info_parts infoP
  have hd : decide ((n : Int) < 1) = false := decide_eq_false (by omega)
  have hd2 : decide ((n : Int) > 64) = false := decide_eq_false (by omega)
  have hp0 : (0 : Int) ≤ (n : Int) := by omega
  have hbt : Tryz.prog.built 97 [(0, .slice (some ⟨w.heap.size, 0, none⟩) n n)] = some #[.slice (some ⟨w.heap.size, 0, none⟩) n n, .int .i64 0] := by kernel_rfl
  go_enter Tryz.func31, Tryz.ntmps31
  go_wp2_with (first | (at_make; go_must (refine wpList_make_full _ rfl _ _ 95 rfl w.heap.size 98 i0 (.pointer none) 1 Tryz.underlying95 hi hz0 hz1 _ _ _ _ n rfl rfl rfl rfl (by rw [hz2]; omega) (by unfold maxLen; omega) (Nat.le_refl _) ?_); intro w1 hrow1 hg1) | fail)
  have hst : NL w (w1.alloc (.cells #[.slice (some ⟨w.heap.size, 0, none⟩) n n, .int .i64 0] 97)) w1.heap.size w.heap.size n 0 (fun _ => 0) (fun _ => 0) := by
    have hlt := (hrow1.lt w.heap.size rfl).2
    have hb2 := Box2.new w1 (.slice (some ⟨w.heap.size, 0, none⟩) n n) (.int .i64 0) 97
    refine ⟨hb2.c0, hb2.c1, hb2.f1, fun i hi => by omega, fun i hi => ?_, fun i hi => ?_, fun i hi => by omega, Nat.le_refl _, hlt, by simp, fun i hi => by omega, fun i hi => by omega, fun i j _ hj => by omega, fun i hi => by omega, ((Below.refl _ w).grown hg1 (Nat.le_refl _) (fun j hj => by cases hj)).alloc hg1.size _⟩
    · refine ⟨_, (World.cell?_alloc_past _ _ _ (by exact hlt)).trans ((World.ownsRow.cellAt hrow1 i (by omega)).trans (List.getElem?_eq_getElem (by rw [hrow1.1]; omega)))⟩
    · exact (World.frozen?_alloc_old w1 _ ⟨w.heap.size, i, none⟩ (Nat.ne_of_lt hlt)).trans (World.ownsRow.frozenAt hrow1 i)
  have HSt := Lib.hid hst
  have hc0 := hst.c0
  clear hst hrow1 hg1 hbt hd hd2
  go_wp2_with fail
  go_loopw [21] (fun r wr => ∃ (k : Nat) (R Q : Nat → Nat), k ≤ n ∧ r = .int .i64 (k : Int) ∧ NL w wr w1.heap.size w.heap.size n k R Q) (fun r _ => n - (intOf r).toNat)
  case atStart => exact ⟨0, _, _, Nat.zero_le _, rfl, HSt.out⟩
  case round =>
    obtain ⟨k, R, Q, hk, rfl, hnl⟩ := hrel
    clear hc0
    by_cases hlt : k < n
    · have hlt' : (k : Int) < (n : Int) := by omega
      have HNl := Lib.hid hnl
      have c0 := hnl.c0
      obtain ⟨vk, g0⟩ := hnl.cs k hlt
      have g1 := hnl.fr k hlt
      have HNew := Lib.hid (show Calls Tryz.prog 54 #[.int .i64 64] wr.drew fun e w' => ∃ R, e = .returned (.tuple #[.pointer (some ⟨R, 0, none⟩), .int .i64 0]) ∧
        RL w' R wr.heap.size 64 [] ∧ Below wr.heap.size wr.drew w' ∧ wr.heap.size < R ∧ R < w'.heap.size from rC.new_l 64 wr.drew (by decide) (by decide))
      clear hnl
      go_wp2_with fail
      go_region_with (with_reducible refine HNew.out.mono ?_; rintro e w3 ⟨r, rfl, hr3, hB3, h3a, h3b⟩; obtain ⟨⟨q0, ⟨vk3, q1⟩, q2⟩, q3⟩ := HNl.out.step (s := wr.heap.size) hlt (w2 := wr.drew) ((Ch.refl [] wr).drew) rfl hr3 hB3 h3a h3b; have HQ3 := Lib.hid q3; clear hr3 hB3 q3)
      all_goals
        go_wp2
        go_roundw
        case rel => exact ⟨k + 1, _, _, by omega, by go_num, HQ3.out⟩
        case measure => simp [intOf]; omega
    · have hlt' : ¬ (k : Int) < (n : Int) := by omega
      go_wp2
      go_ret2
      obtain rfl : k = n := by omega
      exact ⟨_, _, R, Q, rfl, ⟨h0, h1, hnl.c0, hnl.c1, hnl.f1, hnl.row, hnl.ring, hnl.gl, hnl.ga, hnl.aq, hnl.qr, hnl.mono, hnl.rt, Nat.le_refl _⟩, hnl.bel⟩
end Go.Proofs.YtjoaigadlpndcaaGreatDoor
namespace Go.Proofs.YtjoaigadlpndcaaGreatDoor
open Go.RowKit Go.Shelf Go.Maps
open rC (Th RL flat tv objT)

attribute [local go_sem] Oper.semAt_some

set_option maxHeartbeats 1000000 in
theorem same_eq (a1 a2 : Option Addr) (cap1 cap2 : Nat) (zs : List Int) (w : World) (hl : zs.length ≤ 9223372036854775807) (h1 : IntsAt w a1 zs) (h2 : IntsAt w a2 zs) :
    Calls Tryz.prog 15 #[.slice a1 zs.length cap1, .slice a2 zs.length cap2] w fun e w' => e = .returned (.bool true) ∧ ∃ m, w' = w.drewN m := by
  obtain ⟨n, hn⟩ : ∃ n, n = zs.length := ⟨_, rfl⟩
  rw [← hn] at hl ⊢
  have HN := Lib.hid hn
  have H1 := Lib.hid h1
  have H2 := Lib.hid h2
  clear hn h1 h2
  go_enter Tryz.func15, Tryz.ntmps15
  go_wp2
  go_loopw [5] (fun i wr => ∃ k m : Nat, k ≤ n ∧ i = .int .i64 (k : Int) ∧ wr = w.drewN m) (fun i _ => n - (intOf i).toNat)
  case atStart => exact ⟨0, 0, by omega, rfl, rfl⟩
  case round =>
    obtain ⟨k, m, hk, rfl, rfl⟩ := hrel
    by_cases hlt : k < n
    · rcases H1.out with h0 | ⟨b, off, rfl, hc⟩
      · exfalso; rw [HN.out, h0] at hlt; simp at hlt
      · rcases H2.out with h0 | ⟨b2, off2, rfl, hc2⟩
        · exfalso; rw [HN.out, h0] at hlt; simp at hlt
        · have hc := hc k (by rw [← HN.out]; exact hlt)
          have hc2 := hc2 k (by rw [← HN.out]; exact hlt)
          generalize zs[k]?.getD 0 = z at hc hc2
          have hzz : (z != z) = false := by simp
          go_wp2
          go_quiet (fail)
          go_wp2
          go_roundw
          case rel => exact ⟨k + 1, _, by omega, by go_num, rfl⟩
          case measure => simp [intOf]; omega
    · go_wp2
      go_ret
      exact ⟨rfl, m, rfl⟩
theorem ints_own {w : World} {B e n cap : Nat} {a : Option Addr} {zs : List Int} (h : w.ownsRow B e 1 (.slice a n cap) n (ivs zs)) : IntsAt w a zs ∧ n = zs.length := by
  have hl := h.1
  simp at hl
  refine ⟨?_, hl.symm⟩
  rcases h.2 with ⟨e1, rfl⟩ | ⟨g, cp, cur, e1, hg⟩
  · exact .inl (List.eq_nil_of_length_eq_zero (by omega))
  · cases e1
    refine .inr ⟨g, 0, rfl, fun i hi => ?_⟩
    have := h.cellAt i (by omega)
    rw [Nat.zero_add, this, List.getElem?_map, List.getElem?_eq_getElem hi]
    rfl
theorem ints_one (w : World) (z : Int) (t : TypeId) : IntsAt (w.alloc (.cells #[.int .i64 z] t)) (some ⟨w.heap.size, 0, none⟩) [z] := by
  refine .inr ⟨_, _, rfl, fun i hi => ?_⟩
  obtain rfl : i = 0 := by simp at hi; omega
  exact (One.new w (.int .i64 z) t).c0
theorem IntsAt.ch {w w' : World} {a : Option Addr} {zs : List Int} (h : IntsAt w a zs) (hc : Ch [] w w') : IntsAt w' a zs := by
  rcases h with h | ⟨b, off, e, h⟩
  · exact .inl h
  · exact .inr ⟨b, off, e, fun i hi => (hc.cell (p := ⟨b, off + i, none⟩) (cell_lt (h i hi)) (by simp)).trans (h i hi)⟩

/-- Lists, where it doesn't matter where their parts lie. -/
def LC (w : World) (base top A n : Nat) (last : Int) (f : Nat → List Th) : Prop := ∃ G R Q, CL w base top A G n last R Q f
section
variable {w w' : World} {base top A n : Nat} {last : Int} {f : Nat → List Th}
theorem LC.chP {T : Nat → Prop} (h : LC w base top A n last f) (hc : ChP T w w') (hT : ∀ k, T k → ¬ Own base top k) : LC w' base top A n last f := by
  obtain ⟨G, R, Q, h⟩ := h
  exact ⟨G, R, Q, h.chP hc hT⟩
theorem LC.quiet (h : LC w base top A n last f) (hc : Ch [] w w') : LC w' base top A n last f := h.chP (T := fun _ => False) (.quiet hc) (fun _ e => e.elim)
theorem LC.below (h : LC w base top A n last f) (hc : Below w.heap.size w w') : LC w' base top A n last f := h.quiet (.of_below hc)
theorem LC.hi (h : LC w base top A n last f) : top ≤ w.heap.size := by
  obtain ⟨G, R, Q, h⟩ := h
  exact h.hi
theorem LC.n64 (h : LC w base top A n last f) : 1 ≤ n ∧ n ≤ 64 := by
  obtain ⟨G, R, Q, h⟩ := h
  exact ⟨h.n1, h.n64⟩
theorem LC.len (h : LC w base top A n last f) : ∀ i, i < n → (f i).length ≤ 64 := by
  obtain ⟨G, R, Q, h⟩ := h
  exact fun i hi => (h.ring i hi).le.1
theorem LC.inA (h : LC w base top A n last f) : Own base top A := by
  obtain ⟨G, R, Q, h⟩ := h
  exact h.inA
theorem LC.congr (h : LC w base top A n last f) {g : Nat → List Th} (hg : ∀ i, i < n → g i = f i) : LC w base top A n last g := by
  obtain ⟨G, R, Q, h⟩ := h
  exact ⟨G, R, Q, h.congr hg⟩
theorem LC.lp (h : LC w base top A n last f) : LP w.heap.size w (some ⟨A, 0, none⟩) (catL f n) ∧ (catL f n).length ≤ 4096 := by
  have h1 := catL_len h.len n (Nat.le_refl _)
  have h2 := h.n64
  obtain ⟨G, R, Q, h⟩ := h
  refine ⟨.inr ⟨base, top, A, G, n, last, R, Q, f, rfl, h.hi, h, rfl⟩, ?_⟩
  have : n * 64 ≤ 64 * 64 := Nat.mul_le_mul_right _ h2.2
  omega
theorem LC.add (h : LC w base top A n last f) {c : Nat} (hc : c < n) {a : Option Addr} {cap : Nat} {zs : List Int} (hz : IntsAt w a zs) (hl : zs.length ≤ cap) (hcap : cap ≤ 9223372036854775807) (hb : zs ≠ [] → ∀ x, a = some x → ¬ Own base top x.block) :
    Calls Tryz.prog 38 #[.pointer (some ⟨A, 0, none⟩), .int .i64 (c : Int), .slice a zs.length cap] w fun e w' =>
      e = .returned (.int .i64 (if 64 < (f c).length + zs.length then 3 else 0)) ∧ LC w' base top A n last (updF f c ((f c ++ zs.map fresh).take 64)) ∧ ChP (Own base top) w w' := by
  obtain ⟨G, R, Q, h⟩ := h
  exact (add_in h hc hz hl hcap hb).mono fun e w' ⟨h1, h2, h3⟩ => ⟨h1, ⟨G, R, Q, h2⟩, h3⟩
/-- One more, of a slice that the call has made. -/
theorem LC.add1 (h : LC w base top A n last f) {c : Nat} (hc : c < n) (z : Int) :
    Calls Tryz.prog 38 #[.pointer (some ⟨A, 0, none⟩), .int .i64 (c : Int), .slice (some ⟨w.heap.size, 0, none⟩) 1 1] (w.alloc (.cells #[.int .i64 z] 3)) fun e w' =>
      e = .returned (.int .i64 (if 64 < (f c).length + 1 then 3 else 0)) ∧ LC w' base top A n last (updF f c ((f c ++ [fresh z]).take 64)) ∧ ChP (Own base top) w w' := by
  have hhi := h.hi
  have h1 := (h.quiet ((Ch.refl [] w).alloc (.cells #[.int .i64 z] 3))).add hc (cap := 1) (ints_one w z _) (by simp) (by decide) (fun _ x e => by cases e; intro e; have := e.2; simp at this; omega)
  exact h1.mono fun e w' ⟨h1, h2, h3⟩ => ⟨h1, h2, ((ChP.refl _ w).alloc _).trans h3⟩
theorem LC.add_out (h : LC w base top A n last f) {i : Int} (hi : i < 0 ∨ (n : Int) ≤ i) (v : Value) :
    Calls Tryz.prog 38 #[.pointer (some ⟨A, 0, none⟩), .int .i64 i, v] w fun e w' => e = .returned (.int .i64 2) ∧ w = w' := by
  obtain ⟨G, R, Q, h⟩ := h
  exact Go.Proofs.YtjoaigadlpndcaaGreatDoor.add_out h hi v
theorem LC.close (h : LC w base top A n last f) {gen : Int} (h1 : 1 ≤ gen) (h2 : last ≤ gen) :
    Calls Tryz.prog 73 #[.pointer (some ⟨A, 0, none⟩), .int .i64 gen] w fun e w' =>
      e = .returned (.int .i64 (sumN (fun i => zc (f i)) n : Int)) ∧ LC w' base top A n gen (fun i => (f i).map (giveT gen)) ∧ ChP (Own base top) w w' := by
  obtain ⟨G, R, Q, h⟩ := h
  exact (close_ok h h1 h2).mono fun e w' ⟨h1, h2, h3⟩ => ⟨h1, ⟨G, R, Q, h2⟩, h3⟩
theorem LC.close_no (h : LC w base top A n last f) {gen : Int} (h1 : gen < 1 ∨ gen < last) :
    Calls Tryz.prog 73 #[.pointer (some ⟨A, 0, none⟩), .int .i64 gen] w fun e w' => e = .returned (.int .i64 0) ∧ w = w' := by
  obtain ⟨G, R, Q, h⟩ := h
  exact Go.Proofs.YtjoaigadlpndcaaGreatDoor.close_no h h1
theorem LC.done (h : LC w base top A n last f) (gen : Int) :
    Calls Tryz.prog 71 #[.pointer (some ⟨A, 0, none⟩), .int .i64 gen] w fun e w' =>
      ∃ v, e = .returned v ∧ w'.ownsRow w.heap.size 3 1 v (outN gen f n).length (ivs (outN gen f n)) ∧ LC w' base top A n last (fun i => (f i).dropWhile (up gen)) ∧ ChP (Own base top) w w' := by
  obtain ⟨G, R, Q, h⟩ := h
  exact (callsIn_wide.1 (done_in 0 h gen)).mono fun e w' ⟨v, h0, h1, h2, h3⟩ => ⟨v, h0, h1, ⟨G, R, Q, h2⟩, h3⟩
theorem LC.open' (h : LC w base top A n last f) :
    Calls Tryz.prog 52 #[.pointer (some ⟨A, 0, none⟩)] w fun e w' => e = .returned (.int .i64 (zcI (catL f n))) ∧ Below w.heap.size w w' := callsIn_wide.1 (open_in 0 h.lp.1 h.lp.2)
theorem LC.newest (h : LC w base top A n last f) :
    Calls Tryz.prog 53 #[.pointer (some ⟨A, 0, none⟩)] w fun e w' => e = .returned (.int .i64 (mxI (catL f n))) ∧ Below w.heap.size w w' := callsIn_wide.1 (newest_in 0 h.lp.1 h.lp.2)
theorem LC.len' (h : LC w base top A n last f) :
    Calls Tryz.prog 51 #[.pointer (some ⟨A, 0, none⟩)] w fun e w' => e = .returned (.int .i64 (lnI (catL f n))) ∧ Below w.heap.size w w' := callsIn_wide.1 (len_in 0 h.lp.1 h.lp.2)
theorem lc_new {n : Nat} (h0 : 1 ≤ n) (h1 : n ≤ 64) (w : World) :
    Calls Tryz.prog 31 #[.int .i64 (n : Int)] w fun e w' => ∃ A, e = .returned (.tuple #[.pointer (some ⟨A, 0, none⟩), .int .i64 0]) ∧ LC w' w.heap.size w'.heap.size A n 0 (fun _ => []) ∧ Below w.heap.size w w' :=
  (new_ok h0 h1 w).mono fun _ _ ⟨A, G, R, Q, h1, h2, h3⟩ => ⟨A, h1, ⟨G, R, Q, h2⟩, h3⟩
end
/-- Nil lists. -/
theorem nil_lp (w : World) : LP w.heap.size w none [] := .inl ⟨rfl, rfl⟩
theorem open_nil (w : World) : Calls Tryz.prog 52 #[.pointer none] w fun e w' => e = .returned (.int .i64 0) ∧ Below w.heap.size w w' := callsIn_wide.1 (open_in 0 (nil_lp w) (by simp))
theorem newest_nil (w : World) : Calls Tryz.prog 53 #[.pointer none] w fun e w' => e = .returned (.int .i64 0) ∧ Below w.heap.size w w' := callsIn_wide.1 (newest_in 0 (nil_lp w) (by simp))
theorem len_nil' (w : World) : Calls Tryz.prog 51 #[.pointer none] w fun e w' => e = .returned (.int .i64 0) ∧ Below w.heap.size w w' := callsIn_wide.1 (len_in 0 (nil_lp w) (by simp))
theorem chP_bel {w0 a b : World} {base top : Nat} (h : ChP (Own base top) a b) (hb : Below w0.heap.size w0 a) (hl : w0.heap.size ≤ base) : Below w0.heap.size w0 b :=
  hb.trans (h.below _ (fun k hk => by have := hk.1; omega) hb.size)
theorem bel_bel {w0 a b : World} (hb : Below w0.heap.size w0 a) (h : Below a.heap.size a b) : Below w0.heap.size w0 b := hb.trans (h.mono hb.size)

/-- What the example's lists hold, step by step. -/
def k1 : Nat → List Th := updF (fun _ => []) 1 (([] ++ [fresh 7]).take 64)
def k2 : Nat → List Th := fun i => (k1 i).map (giveT 3)
def k3 : Nat → List Th := updF k2 0 ((k2 0 ++ [fresh 8]).take 64)
def k4 : Nat → List Th := updF k3 1 ((k3 1 ++ [fresh 9]).take 64)
theorem k_close : sumN (fun i => zc (k1 i)) 2 = 1 := by decide
theorem k_open : zcI (catL k4 2) = 2 := by decide
theorem k_done : outN 5 k4 2 = [7] := by decide
end Go.Proofs.YtjoaigadlpndcaaGreatDoor

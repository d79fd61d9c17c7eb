/-
  Next.
-/
import Derived.BigRegionIn
import Derived.Test.YtnndofeomakpiaaGreatDoorBkE
namespace Go.Proofs.YtnndofeomakpiaaGreatDoor
open Go.RowKit Go.Maps Go.Shelf

attribute [local go_sem] Oper.semAt_some

theorem bitv_test (z : Int) (i : Nat) (hi : i < 64) : (Mk.bitv z).testBit i = decide (z = (i : Int)) := by
  unfold Mk.bitv
  split
  · rename_i h
    rw [Nat.testBit_two_pow]
    by_cases e : z = (i : Int)
    · subst e; simp
    · rw [decide_eq_false (by omega), decide_eq_false e]
  · rw [Nat.zero_testBit, decide_eq_false (by omega)]
theorem withN_test (zs : List Int) (i : Nat) (hi : i < 64) : ∀ m : Nat, (Mk.withN m zs).testBit i = (m.testBit i || decide ((i : Int) ∈ zs)) := by
  induction zs with
  | nil => intro m; simp [Mk.withN]
  | cons z r ih =>
    intro m
    have : Mk.withN m (z :: r) = Mk.withN (m ||| Mk.bitv z) r := rfl
    rw [this, ih, Nat.testBit_or, bitv_test z i hi]
    by_cases e : z = (i : Int)
    · subst e; simp
    · have e2 : ¬ (i : Int) = z := fun h => e h.symm
      simp [e, e2]
/-- The CPUs that are named, as a mask; all, if none are. -/
def namedM (zs : List Int) : Nat := if zs = [] then 18446744073709551615 else Mk.withN 0 zs
theorem namedM_lt (zs : List Int) : namedM zs < 18446744073709551616 := by
  unfold namedM
  split
  · decide
  · exact Mk.withN_lt 0 zs (by decide)
theorem ones_test (i : Nat) (hi : i < 64) : (18446744073709551615 : Nat).testBit i = true := by
  have : (18446744073709551615 : Nat) = 2 ^ 64 - 1 := by decide
  rw [this, Nat.testBit_two_pow_sub_one]
  simpa using hi
theorem named_has (zs : List Int) (i : Nat) (hi : i < 64) : Mk.hasb (namedM zs) (i : Int) = true ↔ zs = [] ∨ (i : Int) ∈ zs := by
  unfold Mk.hasb namedM
  rw [decide_eq_true (by omega), Bool.true_and, Int.toNat_natCast]
  split
  · rename_i h
    rw [ones_test i hi]
    simp [h]
  · rename_i h
    rw [withN_test zs i hi]
    simp [h]
/-- The least tick at which a timer of these CPUs is due, if there is one. -/
def LeastL (f : Nat → Wh) (l : List Nat) (x : Int) (b : Bool) : Prop :=
  (b = false ∧ x = 0 ∧ ∀ i ∈ l, (f i).L = []) ∨ (b = true ∧ (∃ i ∈ l, ∃ t ∈ (f i).L, t.sp.due = x) ∧ ∀ i ∈ l, ∀ t ∈ (f i).L, x ≤ t.sp.due)
theorem LeastL.none {f : Nat → Wh} {l : List Nat} {x : Int} {b : Bool} (h : LeastL f l x b) {i : Nat} (hn : nextO (DL (f i).L) = false) : LeastL f (l ++ [i]) x b := by
  have e := next_nil.1 hn
  rcases h with ⟨h1, h2, h3⟩ | ⟨h1, ⟨j, hj, t, ht, hd⟩, h3⟩
  · refine .inl ⟨h1, h2, fun j hj => ?_⟩
    rcases List.mem_append.1 hj with hj | hj
    · exact h3 j hj
    · obtain rfl : j = i := by simpa using hj
      exact e
  · refine .inr ⟨h1, ⟨j, List.mem_append_left _ hj, t, ht, hd⟩, fun j hj t ht => ?_⟩
    rcases List.mem_append.1 hj with hj | hj
    · exact h3 j hj t ht
    · obtain rfl : j = i := by simpa using hj
      rw [e] at ht
      cases ht
theorem LeastL.better {f : Nat → Wh} {l : List Nat} {x : Int} {b : Bool} (h : LeastL f l x b) {i : Nat} (hn : nextO (DL (f i).L) = true) (hb : b = false ∨ nextD (DL (f i).L) < x) : LeastL f (l ++ [i]) (nextD (DL (f i).L)) true := by
  obtain ⟨⟨t, ht, hd⟩, hle⟩ := next_some hn
  refine .inr ⟨rfl, ⟨i, by simp, t, ht, hd⟩, fun j hj u hu => ?_⟩
  rcases List.mem_append.1 hj with hj | hj
  · rcases h with ⟨h1, h2, h3⟩ | ⟨h1, _, h3⟩
    · rw [h3 j hj] at hu; cases hu
    · rcases hb with hb | hb
      · rw [h1] at hb; cases hb
      · have := h3 j hj u hu; omega
  · obtain rfl : j = i := by simpa using hj
    exact hle u hu
theorem LeastL.worse {f : Nat → Wh} {l : List Nat} {x : Int} (h : LeastL f l x true) {i : Nat} (hn : nextO (DL (f i).L) = true) (hb : ¬ nextD (DL (f i).L) < x) : LeastL f (l ++ [i]) x true := by
  obtain ⟨⟨t, ht, hd⟩, hle⟩ := next_some hn
  rcases h with ⟨h1, _⟩ | ⟨_, ⟨j, hj, u, hu, hd2⟩, h3⟩
  · cases h1
  · refine .inr ⟨rfl, ⟨j, List.mem_append_left _ hj, u, hu, hd2⟩, fun j hj v hv => ?_⟩
    rcases List.mem_append.1 hj with hj | hj
    · exact h3 j hj v hv
    · obtain rfl : j = i := by simpa using hj
      have := hle v hv
      omega
theorem LeastL.eq {f : Nat → Wh} {l l' : List Nat} {x y : Int} {b c : Bool} (h : LeastL f l x b) (k : LeastL f l' y c) (hm : ∀ i, i ∈ l ↔ i ∈ l') : x = y ∧ b = c := by
  rcases h with ⟨h1, h2, h3⟩ | ⟨h1, ⟨j, hj, u, hu, hd⟩, h3⟩
  · rcases k with ⟨k1, k2, k3⟩ | ⟨k1, ⟨i, hi, t, ht, _⟩, _⟩
    · exact ⟨h2.trans k2.symm, h1.trans k1.symm⟩
    · rw [h3 i ((hm i).2 hi)] at ht; cases ht
  · rcases k with ⟨k1, k2, k3⟩ | ⟨k1, ⟨i, hi, t, ht, hd2⟩, k3⟩
    · rw [k3 j ((hm j).1 hj)] at hu; cases hu
    · have := h3 i ((hm i).2 hi) t ht
      have := k3 j ((hm j).1 hj) u hu
      exact ⟨by omega, h1.trans k1.symm⟩
theorem LeastL.wd {f : Nat → Wh} {l : List Nat} {x : Int} {b : Bool} (h : LeastL f l x b) (hf : ∀ i ∈ l, ∀ t ∈ (f i).L, Wd t.sp.due) : Wd x := by
  rcases h with ⟨_, rfl, _⟩ | ⟨_, ⟨j, hj, u, hu, rfl⟩, _⟩
  · exact ⟨by decide, by decide⟩
  · exact hf j hj u hu
/-- What Next's loop keeps. -/
def NextI (w : World) (p : Option Addr) (n : Nat) (f : Nat → Wh) (M : Nat) (pre : List (SuchC n fun i => Mk.hasb M (i : Int))) (W : World) : Prop :=
  GQ (fun _ => False) w (w.heap.size + 1 + 1 + 1) (w.heap.size + 1 + 1 + 1 + 1) w.heap.size (.pointer p) (.func (.func 43) #[] #[.pointer (some ⟨w.heap.size, 0, none⟩)]) (.int .u64 (M : Int)) W ∧
    ∃ x b, LeastL f (valsC pre) x b ∧ Boxed W (w.heap.size + 1) 22 (.int .u64 x) ∧ Boxed W (w.heap.size + 1 + 1) 4 (.bool b)
set_option maxRecDepth 100000 in
set_option maxHeartbeats 4000000 in
theorem bnext_in (m : Nat) {w : World} {base n : Nat} {p : Option Addr} {f : Nat → Wh} (h : BO w base p n f) (hT : Mk.Tab w) {a : Option Addr} {cp : Nat} {zs : List Int} (hz : Mk.IntsAt w a zs) (hl : zs.length ≤ 9223372036854775807) :
    CallsIn Fence.wide (m + 6) Tryz.prog 20 #[.pointer p, .slice a zs.length cp] w fun e W' => ∃ x b,
      e = .returned (.tuple #[.int .u64 x, .bool b]) ∧ LeastL f (selC n fun i => Mk.hasb (namedM zs) (i : Int)) x b ∧ Ch [] w W' := by
  have HO := Lib.hid h
  have HT := Lib.hid hT
  have htab := tab_lt hT
  have HOf := Lib.hid (Mk.of_any a cp zs w hl hz)
  have hM2 := namedM_lt zs
  obtain ⟨M, hM⟩ : ∃ M, M = namedM zs := ⟨_, rfl⟩
  obtain ⟨zl, hzl⟩ : ∃ k, k = zs.length := ⟨_, rfl⟩
  rw [← hM] at hM2 ⊢
  rw [← hzl] at HOf hl ⊢
  have HM2 := Lib.hid hM2
  have HMe := Lib.hid hM
  have HZl := Lib.hid hzl
  clear h hT hz hM2 hM hzl
  have hw : ∀ f, Fence.wide.fn f := fun _ => trivial
  have hd : Fence.wide.depth = none := rfl
  have h1 : 1 ≤ m + 6 := by omega
  rcases Nat.eq_zero_or_pos zl with h0 | h0
  · have hMe : M = 18446744073709551615 := by
      rw [HMe.out]
      unfold namedM
      rw [if_pos (List.eq_nil_of_length_eq_zero (by rw [← HZl.out]; exact h0))]
    have hfull : Mk.fulln 64 = 18446744073709551615 := by decide
    have HFu := Lib.hid (fun W => Mk.full_any 64 W)
    rw [hfull, ← hMe] at HFu
    obtain ⟨M0, hM0⟩ : ∃ x, x = Mk.withN 0 zs := ⟨_, rfl⟩
    rw [← hM0] at HOf
    subst h0
    clear hMe hfull hM0
    refine callsIn_of_wp_marks Tryz.func20 rfl trivial ?_ rfl
    simp only [Tryz.ntmps20, List.size_toArray, List.length_cons, List.length_nil, Nat.reduceAdd, Nat.reduceSub, Array.replicate_succ, Array.replicate_zero, List.push_toArray, List.append_toArray, List.nil_append, List.cons_append]
    gi_wp2_with (first | (gi_at_call 41; with_reducible refine (callsIn_wide.2 HOf.out).mono ?_; rintro e w' ⟨rfl, rfl⟩) | (gi_at_call 42; with_reducible refine (callsIn_wide.2 (HFu.out _)).mono ?_; rintro e w' ⟨rfl, rfl⟩) | (gi_at_call 35; refine (those_in _ _ _ _ _).mono ?_; rintro e w' ⟨rfl, rfl⟩))
    obtain ⟨W1, hW1⟩ : ∃ W1, W1 = w.alloc (.cells #[.int .u64 (M : Int)] 64) := ⟨_, rfl⟩
    obtain ⟨W2, hW2⟩ : ∃ W2, W2 = W1.alloc (.cells #[.int .u64 0] 22) := ⟨_, rfl⟩
    obtain ⟨W3, hW3⟩ : ∃ W3, W3 = W2.alloc (.cells #[.bool false] 4) := ⟨_, rfl⟩
    obtain ⟨W4, hW4⟩ : ∃ W4, W4 = W3.alloc (.cells #[.pointer p] 25) := ⟨_, rfl⟩
    obtain ⟨W0, hW0⟩ : ∃ W0, W0 = W4.alloc (.cells #[.func (.func 43) #[] #[.pointer (some ⟨w.heap.size, 0, none⟩)]] 89) := ⟨_, rfl⟩
    have s1 : W1.heap.size = w.heap.size + 1 := by rw [hW1]; simp
    have s2 : W2.heap.size = w.heap.size + 1 + 1 := by rw [hW2]; simp [s1]
    have s3 : W3.heap.size = w.heap.size + 1 + 1 + 1 := by rw [hW3]; simp [s2]
    have s4 : W4.heap.size = w.heap.size + 1 + 1 + 1 + 1 := by rw [hW4]; simp [s3]
    have hsz : W0.heap.size = w.heap.size + 1 + 1 + 1 + 1 + 1 := by rw [hW0]; simp [s4]
    have bx : Boxed W0 w.heap.size 64 (.int .u64 (M : Int)) := by
      rw [hW0, hW4, hW3, hW2, hW1]; exact ((((Boxed.new w _ _).alloc _).alloc _).alloc _).alloc _
    have bl : Boxed W0 (w.heap.size + 1) 22 (.int .u64 0) := by
      rw [hW0, hW4, hW3, hW2, ← s1]; exact (((Boxed.new W1 _ _).alloc _).alloc _).alloc _
    have bb : Boxed W0 (w.heap.size + 1 + 1) 4 (.bool false) := by
      rw [hW0, hW4, hW3, ← s2]; exact ((Boxed.new W2 _ _).alloc _).alloc _
    have b1 : Boxed W0 (w.heap.size + 1 + 1 + 1) 25 (.pointer p) := by
      rw [hW0, hW4, ← s3]; exact (Boxed.new W3 _ _).alloc _
    have b2 : Boxed W0 (w.heap.size + 1 + 1 + 1 + 1) 89 (.func (.func 43) #[] #[.pointer (some ⟨w.heap.size, 0, none⟩)]) := by
      rw [hW0, ← s4]; exact Boxed.new W4 _ _
    have hc0 : Ch [] w W0 := by rw [hW0, hW4, hW3, hW2, hW1]; exact (((((Ch.refl [] w).alloc _).alloc _).alloc _).alloc _).alloc _
    rw [← hW1, ← hW2, ← hW3, ← hW4, ← hW0]
    clear hW0 hW1 hW2 hW3 hW4 s1 s2 s3 s4
    have hq0 : GQ (fun _ => False) w (w.heap.size + 1 + 1 + 1) (w.heap.size + 1 + 1 + 1 + 1) w.heap.size (.pointer p) (.func (.func 43) #[] #[.pointer (some ⟨w.heap.size, 0, none⟩)]) (.int .u64 (M : Int)) W0 := ⟨.quiet hc0, b1.cell, b2.cell, bx.cell⟩
    clear hc0 b1 b2 bx
    refine wpIn_range_p rfl h1 (gf := 56) (lb := #[.pointer (some ⟨w.heap.size + 1 + 1 + 1, 0, none⟩), .pointer (some ⟨w.heap.size + 1 + 1 + 1 + 1, 0, none⟩)]) rfl trivial (enters_of Tryz.func56 (by kernel_rfl) rfl)
      (those_stops (m + 6 - 1) (Good := GQ (fun _ => False) w (w.heap.size + 1 + 1 + 1) (w.heap.size + 1 + 1 + 1 + 1) w.heap.size (.pointer p) (.func (.func 43) #[] #[.pointer (some ⟨w.heap.size, 0, none⟩)]) (.int .u64 (M : Int))) (p := p) (n := n) (Bs := fun i => (f i).B) (F := 43) (lb := #[.pointer (some ⟨w.heap.size, 0, none⟩)]) (q := fun i => Mk.hasb M (i : Int))
        ⟨enters_of Tryz.func43 (by kernel_rfl) rfl, fun W g => g.c1, fun W g => g.c2, fun W g => (HO.out.quiet g.q).bat, fun W g i hi => by
          rw [app1]
          exact next1b_any _ _ HM2.out g.cx, fun W W' g hc => g.quiet hc⟩ W0 (fun W hB => hq0.quiet (.of_below hB)))
      (fun A B hAB k o hk _ _ => (hAB.block k (Array.getElem?_eq_some_iff.1 hk).1 (by simp)).trans hk)
      (fun h k g => k (h g)) (fun W l o o' hl ho hc _ _ g => gq_b l o o' (by omega) ho hc g) (fun _ => rfl)
      (NextI w p n f M)
      (fun _ _ _ => False)
      (OwnFrom.and (ownFrom_gq (by omega)) (fun s W W' row hs hg hr => by
        obtain ⟨x, b, h2, h3, h4⟩ := hs
        exact ⟨x, b, h2, boxed_own (β := Unit) _ _ (fun _ => .int .u64 x) () W W' row h3 hg (fun r e => (hr r e).2), boxed_own (β := Unit) _ _ (fun _ => .bool b) () W W' row h4 hg (fun r e => (hr r e).2)⟩))
      (fun s A B hs hc => by
        obtain ⟨h1, x, b, h2, h3, h4⟩ := hs
        exact ⟨h1.quiet hc, x, b, h2, h3.kept hc.grown0 (by simp), h4.kept hc.grown0 (by simp)⟩)
      (fun _ _ _ _ _ hs _ _ => hs)
      ⟨hq0, 0, false, .inl ⟨rfl, rfl, by simp [valsC]⟩, bl, bb⟩
      (fun x => { tmps := #[.pointer p, .slice a 0 cp, undef, undef, .int .u64 0, .bool false, .pointer (some ⟨w.heap.size, 0, none⟩), .pointer (some ⟨w.heap.size + 1, 0, none⟩), .pointer (some ⟨w.heap.size + 1 + 1, 0, none⟩), undef, .pointer (some ⟨(f x.1).B, 0, none⟩), undef, undef, .slice a 0 cp, .int .u64 (M0 : Int), .slice a 0 cp, .int .i64 0, .bool true, .int .u64 (M : Int), .pointer p, .func (.func 43) #[] #[.pointer (some ⟨w.heap.size, 0, none⟩)], .func (.func 56) #[] #[.pointer (some ⟨w.heap.size + 1 + 1 + 1, 0, none⟩), .pointer (some ⟨w.heap.size + 1 + 1 + 1 + 1, 0, none⟩)], .int .i64 ((x.1 : Nat) : Int), .pointer (some ⟨(f x.1).B, 0, none⟩), undef, undef, undef, undef, undef, undef, undef, undef, undef, undef, undef, undef, undef, undef, undef, undef, undef, undef], defers := [] }) ?assign ?body ?done ?stop
    case assign =>
      intro l x W K hK
      gi_wp2
      exact hK
    case body =>
      rintro l pre x W ⟨hq, y, b, hle, hy, hb⟩ _
      obtain ⟨i, hi⟩ : ∃ i, i = x.1 := ⟨_, rfl⟩
      have hin : i < n := hi ▸ x.2.1
      rw [← hi]
      have HN := Lib.hid (wnext_any ((HO.out.quiet hq.q).wh hin) (HT.out.below (hq.q.below w.heap.size (fun k hk => by simp at hk) (Nat.le_refl _)) htab))
      have HV := Lib.hid (show valsC (pre ++ [x]) = valsC pre ++ [i] by simp [valsC, hi])
      have HLe := Lib.hid hle
      have HNx := Lib.hid hle
      have HQ := Lib.hid hq
      have HY := Lib.hid hy
      have HB := Lib.hid hb
      obtain ⟨d, hd2⟩ : ∃ d, d = nextD (DL (f i).L) := ⟨_, rfl⟩
      obtain ⟨o, ho⟩ : ∃ o, o = nextO (DL (f i).L) := ⟨_, rfl⟩
      rw [← hd2, ← ho] at HN
      have HD := Lib.hid hd2
      have HOo := Lib.hid ho
      clear hq hle hy hb hq0 bl bb hi hin hd2 ho
      cases o with
      | false =>
        have HE := Lib.hid (HLe.out.none (i := i) HOo.out.symm)
        gi_wp2_with fail
        with_reducible refine (CallsIn.inRound l (callsIn_wide.2 HN.out)).mono ?_
        rintro e w1 ⟨rfl, hc⟩
        gi_wp2_with fail
        refine ⟨(ChP.quiet (S := fun _ => False) hc).keeps (fun _ e => e.elim), fun g => g.quiet hc, HQ.out.quiet hc, y, b, by rw [HV.out]; exact HE.out, HY.out.kept hc.grown0 (by simp), HB.out.kept hc.grown0 (by simp)⟩
      | true =>
        gi_wp2_with fail
        with_reducible refine (CallsIn.inRound l (callsIn_wide.2 HN.out)).mono ?_
        rintro e w1 ⟨rfl, hc⟩
        have hy1 := HY.out.kept hc.grown0 (by simp)
        have hb1 := HB.out.kept hc.grown0 (by simp)
        have c1 := hy1.cell
        have c2 := hb1.cell
        have f1 := hy1.frozen
        have f2 := hb1.frozen
        have HY1 := Lib.hid hy1
        have HB1 := Lib.hid hb1
        have HC := Lib.hid hc
        have hfin : ∀ W', W' = (w1.setCell ⟨w.heap.size + 1, 0, none⟩ (.int .u64 d)).setCell ⟨w.heap.size + 1 + 1, 0, none⟩ (.bool true) → LeastL f (valsC (pre ++ [x])) d true → KeepsFrom W0.heap.size W W' ∧ (GQ (fun _ => False) w (w.heap.size + 1 + 1 + 1) (w.heap.size + 1 + 1 + 1 + 1) w.heap.size (.pointer p) (.func (.func 43) #[] #[.pointer (some ⟨w.heap.size, 0, none⟩)]) (.int .u64 (M : Int)) W → GQ (fun _ => False) w (w.heap.size + 1 + 1 + 1) (w.heap.size + 1 + 1 + 1 + 1) w.heap.size (.pointer p) (.func (.func 43) #[] #[.pointer (some ⟨w.heap.size, 0, none⟩)]) (.int .u64 (M : Int)) W') ∧ NextI w p n f M (pre ++ [x]) W' := fun W' e hL => by
          have hch : ChP (fun k => k = w.heap.size + 1 ∨ k = w.heap.size + 1 + 1) W W' := by
            rw [e]
            exact ((ChP.quiet HC.out).setCell (p := ⟨w.heap.size + 1, 0, none⟩) (.inl (.inl rfl)) _).setCell (p := ⟨w.heap.size + 1 + 1, 0, none⟩) (.inl (.inr rfl)) _
          have hst := fun g : GQ (fun _ => False) w (w.heap.size + 1 + 1 + 1) (w.heap.size + 1 + 1 + 1 + 1) w.heap.size (.pointer p) (.func (.func 43) #[] #[.pointer (some ⟨w.heap.size, 0, none⟩)]) (.int .u64 (M : Int)) W => g.step hch (fun k e => .inr (by omega)) (by omega) (by omega) (by omega)
          refine ⟨hch.keeps (fun k e => by omega), hst, hst HQ.out, d, true, hL, ?_, ?_⟩
          · rw [e]
            exact (HY1.out.set (.int .u64 d)).other (by omega) _
          · rw [e]
            exact (HB1.out.other (by omega) _).set (.bool true)
        have HFin := Lib.hid hfin
        clear hc hy1 hb1 hfin
        cases b with
        | false =>
          have HE := Lib.hid (HLe.out.better (i := i) HOo.out.symm (.inl rfl))
          rw [← HD.out, ← HV.out] at HE
          gi_wp2_with fail
          exact HFin.out _ rfl HE.out
        | true =>
          by_cases hlt : d < y
          · have HE := Lib.hid (HLe.out.better (i := i) HOo.out.symm (.inr (by rw [← HD.out]; exact hlt)))
            rw [← HD.out, ← HV.out] at HE
            have hdec : decide (d < y) = true := decide_eq_true hlt
            gi_wp2_with fail
            exact HFin.out _ rfl HE.out
          · have HE := Lib.hid (HLe.out.worse (i := i) HOo.out.symm (by rw [← HD.out]; exact hlt))
            have hdec : decide (d < y) = false := decide_eq_false hlt
            gi_wp2_with fail
            refine ⟨(ChP.quiet (S := fun _ => False) HC.out).keeps (fun _ e => e.elim), fun g => g.quiet HC.out, HQ.out.quiet HC.out, y, true, by rw [HV.out]; exact HE.out, HY1.out, HB1.out⟩
    case done =>
      rintro D ys W hD hys ⟨hq, y, b, hle, hy, hb⟩ hK
      rw [hys] at hle
      have HLe := Lib.hid hle
      have c1 := hy.cell
      have c2 := hb.cell
      have HQ := Lib.hid hq
      clear hq hle hy hb hq0 bl bb hys
      gi_wp2_with fail
      gi_region
      gi_wp2_with fail
      refine ⟨by simp, .inl ⟨_, _, rfl, run_takeDeferred hK, ?_⟩⟩
      refine ⟨.tuple #[.int .u64 y, .bool b], ?_, y, b, rfl, HLe.out, (gq_b (W := W.drew) D _ _ (by omega) hK rfl HQ.out.drew).q⟩
      simp [results, Tryz.f20, go_sem]
    case stop =>
      rintro D c pre W _ _ h _
      exact h.elim
  · have hMe : M = Mk.withN 0 zs := by
      rw [HMe.out]
      unfold namedM
      rw [if_neg (fun e => by rw [e] at HZl; have := HZl.out; simp at this; omega)]
    rw [← hMe] at HOf
    have hz0 : ¬ ((zl : Int) = 0) := by omega
    have hzb : ((zl : Int) == 0) = false := by simpa using hz0
    have HFu : Hid True := Lib.hid trivial
    clear hMe h0
    refine callsIn_of_wp_marks Tryz.func20 rfl trivial ?_ rfl
    simp only [Tryz.ntmps20, List.size_toArray, List.length_cons, List.length_nil, Nat.reduceAdd, Nat.reduceSub, Array.replicate_succ, Array.replicate_zero, List.push_toArray, List.append_toArray, List.nil_append, List.cons_append]
    gi_wp2_with (first | (gi_at_call 41; with_reducible refine (callsIn_wide.2 HOf.out).mono ?_; rintro e w' ⟨rfl, rfl⟩) | (gi_at_call 42; with_reducible refine (callsIn_wide.2 (HFu.out _)).mono ?_; rintro e w' ⟨rfl, rfl⟩) | (gi_at_call 35; refine (those_in _ _ _ _ _).mono ?_; rintro e w' ⟨rfl, rfl⟩))
    obtain ⟨W1, hW1⟩ : ∃ W1, W1 = w.alloc (.cells #[.int .u64 (M : Int)] 64) := ⟨_, rfl⟩
    obtain ⟨W2, hW2⟩ : ∃ W2, W2 = W1.alloc (.cells #[.int .u64 0] 22) := ⟨_, rfl⟩
    obtain ⟨W3, hW3⟩ : ∃ W3, W3 = W2.alloc (.cells #[.bool false] 4) := ⟨_, rfl⟩
    obtain ⟨W4, hW4⟩ : ∃ W4, W4 = W3.alloc (.cells #[.pointer p] 25) := ⟨_, rfl⟩
    obtain ⟨W0, hW0⟩ : ∃ W0, W0 = W4.alloc (.cells #[.func (.func 43) #[] #[.pointer (some ⟨w.heap.size, 0, none⟩)]] 89) := ⟨_, rfl⟩
    have s1 : W1.heap.size = w.heap.size + 1 := by rw [hW1]; simp
    have s2 : W2.heap.size = w.heap.size + 1 + 1 := by rw [hW2]; simp [s1]
    have s3 : W3.heap.size = w.heap.size + 1 + 1 + 1 := by rw [hW3]; simp [s2]
    have s4 : W4.heap.size = w.heap.size + 1 + 1 + 1 + 1 := by rw [hW4]; simp [s3]
    have hsz : W0.heap.size = w.heap.size + 1 + 1 + 1 + 1 + 1 := by rw [hW0]; simp [s4]
    have bx : Boxed W0 w.heap.size 64 (.int .u64 (M : Int)) := by
      rw [hW0, hW4, hW3, hW2, hW1]; exact ((((Boxed.new w _ _).alloc _).alloc _).alloc _).alloc _
    have bl : Boxed W0 (w.heap.size + 1) 22 (.int .u64 0) := by
      rw [hW0, hW4, hW3, hW2, ← s1]; exact (((Boxed.new W1 _ _).alloc _).alloc _).alloc _
    have bb : Boxed W0 (w.heap.size + 1 + 1) 4 (.bool false) := by
      rw [hW0, hW4, hW3, ← s2]; exact ((Boxed.new W2 _ _).alloc _).alloc _
    have b1 : Boxed W0 (w.heap.size + 1 + 1 + 1) 25 (.pointer p) := by
      rw [hW0, hW4, ← s3]; exact (Boxed.new W3 _ _).alloc _
    have b2 : Boxed W0 (w.heap.size + 1 + 1 + 1 + 1) 89 (.func (.func 43) #[] #[.pointer (some ⟨w.heap.size, 0, none⟩)]) := by
      rw [hW0, ← s4]; exact Boxed.new W4 _ _
    have hc0 : Ch [] w W0 := by rw [hW0, hW4, hW3, hW2, hW1]; exact (((((Ch.refl [] w).alloc _).alloc _).alloc _).alloc _).alloc _
    rw [← hW1, ← hW2, ← hW3, ← hW4, ← hW0]
    clear hW0 hW1 hW2 hW3 hW4 s1 s2 s3 s4
    have hq0 : GQ (fun _ => False) w (w.heap.size + 1 + 1 + 1) (w.heap.size + 1 + 1 + 1 + 1) w.heap.size (.pointer p) (.func (.func 43) #[] #[.pointer (some ⟨w.heap.size, 0, none⟩)]) (.int .u64 (M : Int)) W0 := ⟨.quiet hc0, b1.cell, b2.cell, bx.cell⟩
    clear hc0 b1 b2 bx
    refine wpIn_range_p rfl h1 (gf := 56) (lb := #[.pointer (some ⟨w.heap.size + 1 + 1 + 1, 0, none⟩), .pointer (some ⟨w.heap.size + 1 + 1 + 1 + 1, 0, none⟩)]) rfl trivial (enters_of Tryz.func56 (by kernel_rfl) rfl)
      (those_stops (m + 6 - 1) (Good := GQ (fun _ => False) w (w.heap.size + 1 + 1 + 1) (w.heap.size + 1 + 1 + 1 + 1) w.heap.size (.pointer p) (.func (.func 43) #[] #[.pointer (some ⟨w.heap.size, 0, none⟩)]) (.int .u64 (M : Int))) (p := p) (n := n) (Bs := fun i => (f i).B) (F := 43) (lb := #[.pointer (some ⟨w.heap.size, 0, none⟩)]) (q := fun i => Mk.hasb M (i : Int))
        ⟨enters_of Tryz.func43 (by kernel_rfl) rfl, fun W g => g.c1, fun W g => g.c2, fun W g => (HO.out.quiet g.q).bat, fun W g i hi => by
          rw [app1]
          exact next1b_any _ _ HM2.out g.cx, fun W W' g hc => g.quiet hc⟩ W0 (fun W hB => hq0.quiet (.of_below hB)))
      (fun A B hAB k o hk _ _ => (hAB.block k (Array.getElem?_eq_some_iff.1 hk).1 (by simp)).trans hk)
      (fun h k g => k (h g)) (fun W l o o' hl ho hc _ _ g => gq_b l o o' (by omega) ho hc g) (fun _ => rfl)
      (NextI w p n f M)
      (fun _ _ _ => False)
      (OwnFrom.and (ownFrom_gq (by omega)) (fun s W W' row hs hg hr => by
        obtain ⟨x, b, h2, h3, h4⟩ := hs
        exact ⟨x, b, h2, boxed_own (β := Unit) _ _ (fun _ => .int .u64 x) () W W' row h3 hg (fun r e => (hr r e).2), boxed_own (β := Unit) _ _ (fun _ => .bool b) () W W' row h4 hg (fun r e => (hr r e).2)⟩))
      (fun s A B hs hc => by
        obtain ⟨h1, x, b, h2, h3, h4⟩ := hs
        exact ⟨h1.quiet hc, x, b, h2, h3.kept hc.grown0 (by simp), h4.kept hc.grown0 (by simp)⟩)
      (fun _ _ _ _ _ hs _ _ => hs)
      ⟨hq0, 0, false, .inl ⟨rfl, rfl, by simp [valsC]⟩, bl, bb⟩
      (fun x => { tmps := #[.pointer p, .slice a zl cp, undef, undef, .int .u64 0, .bool false, .pointer (some ⟨w.heap.size, 0, none⟩), .pointer (some ⟨w.heap.size + 1, 0, none⟩), .pointer (some ⟨w.heap.size + 1 + 1, 0, none⟩), undef, .pointer (some ⟨(f x.1).B, 0, none⟩), undef, undef, .slice a zl cp, .int .u64 (M : Int), .slice a zl cp, .int .i64 (zl : Int), .bool false, undef, .pointer p, .func (.func 43) #[] #[.pointer (some ⟨w.heap.size, 0, none⟩)], .func (.func 56) #[] #[.pointer (some ⟨w.heap.size + 1 + 1 + 1, 0, none⟩), .pointer (some ⟨w.heap.size + 1 + 1 + 1 + 1, 0, none⟩)], .int .i64 ((x.1 : Nat) : Int), .pointer (some ⟨(f x.1).B, 0, none⟩), undef, undef, undef, undef, undef, undef, undef, undef, undef, undef, undef, undef, undef, undef, undef, undef, undef, undef], defers := [] }) ?assign ?body ?done ?stop
    case assign =>
      intro l x W K hK
      gi_wp2
      exact hK
    case body =>
      rintro l pre x W ⟨hq, y, b, hle, hy, hb⟩ _
      obtain ⟨i, hi⟩ : ∃ i, i = x.1 := ⟨_, rfl⟩
      have hin : i < n := hi ▸ x.2.1
      rw [← hi]
      have HN := Lib.hid (wnext_any ((HO.out.quiet hq.q).wh hin) (HT.out.below (hq.q.below w.heap.size (fun k hk => by simp at hk) (Nat.le_refl _)) htab))
      have HV := Lib.hid (show valsC (pre ++ [x]) = valsC pre ++ [i] by simp [valsC, hi])
      have HLe := Lib.hid hle
      have HNx := Lib.hid hle
      have HQ := Lib.hid hq
      have HY := Lib.hid hy
      have HB := Lib.hid hb
      obtain ⟨d, hd2⟩ : ∃ d, d = nextD (DL (f i).L) := ⟨_, rfl⟩
      obtain ⟨o, ho⟩ : ∃ o, o = nextO (DL (f i).L) := ⟨_, rfl⟩
      rw [← hd2, ← ho] at HN
      have HD := Lib.hid hd2
      have HOo := Lib.hid ho
      clear hq hle hy hb hq0 bl bb hi hin hd2 ho
      cases o with
      | false =>
        have HE := Lib.hid (HLe.out.none (i := i) HOo.out.symm)
        gi_wp2_with fail
        with_reducible refine (CallsIn.inRound l (callsIn_wide.2 HN.out)).mono ?_
        rintro e w1 ⟨rfl, hc⟩
        gi_wp2_with fail
        refine ⟨(ChP.quiet (S := fun _ => False) hc).keeps (fun _ e => e.elim), fun g => g.quiet hc, HQ.out.quiet hc, y, b, by rw [HV.out]; exact HE.out, HY.out.kept hc.grown0 (by simp), HB.out.kept hc.grown0 (by simp)⟩
      | true =>
        gi_wp2_with fail
        with_reducible refine (CallsIn.inRound l (callsIn_wide.2 HN.out)).mono ?_
        rintro e w1 ⟨rfl, hc⟩
        have hy1 := HY.out.kept hc.grown0 (by simp)
        have hb1 := HB.out.kept hc.grown0 (by simp)
        have c1 := hy1.cell
        have c2 := hb1.cell
        have f1 := hy1.frozen
        have f2 := hb1.frozen
        have HY1 := Lib.hid hy1
        have HB1 := Lib.hid hb1
        have HC := Lib.hid hc
        have hfin : ∀ W', W' = (w1.setCell ⟨w.heap.size + 1, 0, none⟩ (.int .u64 d)).setCell ⟨w.heap.size + 1 + 1, 0, none⟩ (.bool true) → LeastL f (valsC (pre ++ [x])) d true → KeepsFrom W0.heap.size W W' ∧ (GQ (fun _ => False) w (w.heap.size + 1 + 1 + 1) (w.heap.size + 1 + 1 + 1 + 1) w.heap.size (.pointer p) (.func (.func 43) #[] #[.pointer (some ⟨w.heap.size, 0, none⟩)]) (.int .u64 (M : Int)) W → GQ (fun _ => False) w (w.heap.size + 1 + 1 + 1) (w.heap.size + 1 + 1 + 1 + 1) w.heap.size (.pointer p) (.func (.func 43) #[] #[.pointer (some ⟨w.heap.size, 0, none⟩)]) (.int .u64 (M : Int)) W') ∧ NextI w p n f M (pre ++ [x]) W' := fun W' e hL => by
          have hch : ChP (fun k => k = w.heap.size + 1 ∨ k = w.heap.size + 1 + 1) W W' := by
            rw [e]
            exact ((ChP.quiet HC.out).setCell (p := ⟨w.heap.size + 1, 0, none⟩) (.inl (.inl rfl)) _).setCell (p := ⟨w.heap.size + 1 + 1, 0, none⟩) (.inl (.inr rfl)) _
          have hst := fun g : GQ (fun _ => False) w (w.heap.size + 1 + 1 + 1) (w.heap.size + 1 + 1 + 1 + 1) w.heap.size (.pointer p) (.func (.func 43) #[] #[.pointer (some ⟨w.heap.size, 0, none⟩)]) (.int .u64 (M : Int)) W => g.step hch (fun k e => .inr (by omega)) (by omega) (by omega) (by omega)
          refine ⟨hch.keeps (fun k e => by omega), hst, hst HQ.out, d, true, hL, ?_, ?_⟩
          · rw [e]
            exact (HY1.out.set (.int .u64 d)).other (by omega) _
          · rw [e]
            exact (HB1.out.other (by omega) _).set (.bool true)
        have HFin := Lib.hid hfin
        clear hc hy1 hb1 hfin
        cases b with
        | false =>
          have HE := Lib.hid (HLe.out.better (i := i) HOo.out.symm (.inl rfl))
          rw [← HD.out, ← HV.out] at HE
          gi_wp2_with fail
          exact HFin.out _ rfl HE.out
        | true =>
          by_cases hlt : d < y
          · have HE := Lib.hid (HLe.out.better (i := i) HOo.out.symm (.inr (by rw [← HD.out]; exact hlt)))
            rw [← HD.out, ← HV.out] at HE
            have hdec : decide (d < y) = true := decide_eq_true hlt
            gi_wp2_with fail
            exact HFin.out _ rfl HE.out
          · have HE := Lib.hid (HLe.out.worse (i := i) HOo.out.symm (by rw [← HD.out]; exact hlt))
            have hdec : decide (d < y) = false := decide_eq_false hlt
            gi_wp2_with fail
            refine ⟨(ChP.quiet (S := fun _ => False) HC.out).keeps (fun _ e => e.elim), fun g => g.quiet HC.out, HQ.out.quiet HC.out, y, true, by rw [HV.out]; exact HE.out, HY1.out, HB1.out⟩
    case done =>
      rintro D ys W hD hys ⟨hq, y, b, hle, hy, hb⟩ hK
      rw [hys] at hle
      have HLe := Lib.hid hle
      have c1 := hy.cell
      have c2 := hb.cell
      have HQ := Lib.hid hq
      clear hq hle hy hb hq0 bl bb hys
      gi_wp2_with fail
      gi_region
      gi_wp2_with fail
      refine ⟨by simp, .inl ⟨_, _, rfl, run_takeDeferred hK, ?_⟩⟩
      refine ⟨.tuple #[.int .u64 y, .bool b], ?_, y, b, rfl, HLe.out, (gq_b (W := W.drew) D _ _ (by omega) hK rfl HQ.out.drew).q⟩
      simp [results, Tryz.f20, go_sem]
    case stop =>
      rintro D c pre W _ _ h _
      exact h.elim
theorem bnext_any {w : World} {base n : Nat} {p : Option Addr} {f : Nat → Wh} (h : BO w base p n f) (hT : Mk.Tab w) {a : Option Addr} {cp : Nat} {zs : List Int} (hz : Mk.IntsAt w a zs) (hl : zs.length ≤ 9223372036854775807) :
    Calls Tryz.prog 20 #[.pointer p, .slice a zs.length cp] w fun e W' => ∃ x b,
      e = .returned (.tuple #[.int .u64 x, .bool b]) ∧ LeastL f (selC n fun i => Mk.hasb (namedM zs) (i : Int)) x b ∧ Ch [] w W' := callsIn_wide.1 (bnext_in 0 h hT hz hl)
end Go.Proofs.YtnndofeomakpiaaGreatDoor

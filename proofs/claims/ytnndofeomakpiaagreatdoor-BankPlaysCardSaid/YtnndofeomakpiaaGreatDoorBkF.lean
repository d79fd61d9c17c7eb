/-
  Find.
-/
import Derived.BigRegionIn
import Derived.Test.YtnndofeomakpiaaGreatDoorBkD
namespace Go.Proofs.YtnndofeomakpiaaGreatDoor
open Go.RowKit Go.Maps Go.Shelf

attribute [local go_sem] Oper.semAt_some

/-- Find's answer: the CPU, the spot, whether any holds it. -/
def ownC (f : Nat → Wh) (n : Nat) (k : Int) : Nat := match ownO f n k with | some c => c | none => 0
def ownS (f : Nat → Wh) (n : Nat) (k : Int) : Sp := match ownO f n k with | some c => findS (f c).L k | none => sp0
def ownB (f : Nat → Wh) (n : Nat) (k : Int) : Bool := (ownO f n k).isSome
theorem own_none {f : Nat → Wh} {n : Nat} {k : Int} (h : selC n (fun i => lookB (f i).L k) = []) : ownC f n k = 0 ∧ ownS f n k = sp0 ∧ ownB f n k = false := by
  have e : ownO f n k = none := by
    have := selC_find n (fun i => lookB (f i).L k)
    rw [h] at this
    exact this.symm
  unfold ownC ownS ownB
  rw [e]
  exact ⟨rfl, rfl, rfl⟩
theorem own_head {f : Nat → Wh} {n : Nat} {k : Int} {c : Nat} (h : [c] <+: selC n (fun i => lookB (f i).L k)) : ownC f n k = c ∧ ownS f n k = findS (f c).L k ∧ ownB f n k = true := by
  have e : ownO f n k = some c := by
    have := selC_find n (fun i => lookB (f i).L k)
    obtain ⟨r, h⟩ := h
    rw [← h] at this
    exact this.symm
  unfold ownC ownS ownB
  rw [e]
  exact ⟨rfl, rfl, rfl⟩
/-- What Find's loop keeps, and how it is left. -/
def FindG (w : World) (p : Option Addr) (k : Int) (W : World) : Prop := GQ (fun _ => False) w (w.heap.size + 1 + 1 + 1 + 1) (w.heap.size + 1 + 1 + 1 + 1 + 1) w.heap.size (.pointer p) (.func (.func 36) #[] #[.pointer (some ⟨w.heap.size, 0, none⟩)]) (.int .i64 k) W
def FindI (w : World) (p : Option Addr) (n : Nat) (f : Nat → Wh) (k : Int) (pre : List (SuchC n fun i => lookB (f i).L k)) (W : World) : Prop :=
  FindG w p k W ∧ (BoxN W (w.heap.size + 1) [.int .i64 0] ∧ BoxN W (w.heap.size + 1 + 1) [.int .i64 0, .int .i64 0, .int .u64 0, .int .u64 0] ∧ BoxN W (w.heap.size + 1 + 1 + 1) [.bool false]) ∧ pre = []
def FindX (w : World) (p : Option Addr) (n : Nat) (f : Nat → Wh) (k : Int) (c : Code) (pre : List (SuchC n fun i => lookB (f i).L k)) (W : World) : Prop :=
  FindG w p k W ∧ (BoxN W (w.heap.size + 1) [.int .i64 (((valsC pre).headD 0 : Nat) : Int)] ∧ BoxN W (w.heap.size + 1 + 1) [.int .i64 ((findS (f ((valsC pre).headD 0)).L k).lv : Int), .int .i64 (findS (f ((valsC pre).headD 0)).L k).sl, .int .u64 (findS (f ((valsC pre).headD 0)).L k).at', .int .u64 (findS (f ((valsC pre).headD 0)).L k).due] ∧ BoxN W (w.heap.size + 1 + 1 + 1) [.bool true]) ∧ c = .ret ∧ ∃ x, pre = [x]
set_option maxRecDepth 100000 in
set_option maxHeartbeats 4000000 in
theorem bfind_in (m : Nat) {w : World} {base n : Nat} {p : Option Addr} {f : Nat → Wh} (h : BO w base p n f) {k : Int} (hk : wf64 k) :
    CallsIn Fence.wide (m + 6) Tryz.prog 16 #[.pointer p, .int .i64 k] w fun e W' =>
      e = .returned (.tuple #[.int .i64 ((ownC f n k : Nat) : Int), spV (ownS f n k), .bool (ownB f n k)]) ∧ Ch [] w W' := by
  have HO := Lib.hid h
  have HK := Lib.hid hk
  obtain ⟨Ac, hAc⟩ : ∃ x, x = ownC f n k := ⟨_, rfl⟩
  obtain ⟨As, hAs⟩ : ∃ x, x = ownS f n k := ⟨_, rfl⟩
  obtain ⟨Ab, hAb⟩ : ∃ x, x = ownB f n k := ⟨_, rfl⟩
  rw [← hAc, ← hAs, ← hAb]
  have HAc := Lib.hid hAc
  have HAs := Lib.hid hAs
  have HAb := Lib.hid hAb
  clear h hk hAc hAs hAb
  have hw : ∀ f, Fence.wide.fn f := fun _ => trivial
  have hd : Fence.wide.depth = none := rfl
  have h1 : 1 ≤ m + 6 := by omega
  refine callsIn_of_wp_marks Tryz.func16 rfl trivial ?_ rfl
  simp only [Tryz.ntmps16, List.size_toArray, List.length_cons, List.length_nil, Nat.reduceAdd, Nat.reduceSub, Array.replicate_succ, Array.replicate_zero, List.push_toArray, List.append_toArray, List.nil_append, List.cons_append]
  gi_wp2_with (gi_at_call 35; refine (those_in _ _ _ _ _).mono ?_; rintro e w' ⟨rfl, rfl⟩)
  obtain ⟨W1, hW1⟩ : ∃ W1, W1 = w.alloc (.cells #[.int .i64 k] 3) := ⟨_, rfl⟩
  obtain ⟨W2, hW2⟩ : ∃ W2, W2 = W1.alloc (.cells #[.int .i64 0] 3) := ⟨_, rfl⟩
  obtain ⟨W3, hW3⟩ : ∃ W3, W3 = W2.alloc (.cells #[.int .i64 0, .int .i64 0, .int .u64 0, .int .u64 0] 40) := ⟨_, rfl⟩
  obtain ⟨W4, hW4⟩ : ∃ W4, W4 = W3.alloc (.cells #[.bool false] 4) := ⟨_, rfl⟩
  obtain ⟨W5, hW5⟩ : ∃ W5, W5 = W4.alloc (.cells #[.pointer p] 25) := ⟨_, rfl⟩
  obtain ⟨W0, hW0⟩ : ∃ W0, W0 = W5.alloc (.cells #[.func (.func 36) #[] #[.pointer (some ⟨w.heap.size, 0, none⟩)]] 89) := ⟨_, rfl⟩
  have s1 : W1.heap.size = w.heap.size + 1 := by rw [hW1]; simp
  have s2 : W2.heap.size = w.heap.size + 1 + 1 := by rw [hW2]; simp [s1]
  have s3 : W3.heap.size = w.heap.size + 1 + 1 + 1 := by rw [hW3]; simp [s2]
  have s4 : W4.heap.size = w.heap.size + 1 + 1 + 1 + 1 := by rw [hW4]; simp [s3]
  have s5 : W5.heap.size = w.heap.size + 1 + 1 + 1 + 1 + 1 := by rw [hW5]; simp [s4]
  have hsz : W0.heap.size = w.heap.size + 1 + 1 + 1 + 1 + 1 + 1 := by rw [hW0]; simp [s5]
  have q5 : Ch [] W5 W0 := by rw [hW0]; exact (Ch.refl [] _).alloc _
  have q4 : Ch [] W4 W0 := by refine Ch.trans ?_ q5; rw [hW5]; exact (Ch.refl [] _).alloc _
  have q3 : Ch [] W3 W0 := by refine Ch.trans ?_ q4; rw [hW4]; exact (Ch.refl [] _).alloc _
  have q2 : Ch [] W2 W0 := by refine Ch.trans ?_ q3; rw [hW3]; exact (Ch.refl [] _).alloc _
  have q1 : Ch [] W1 W0 := by refine Ch.trans ?_ q2; rw [hW2]; exact (Ch.refl [] _).alloc _
  have hc0 : Ch [] w W0 := by refine Ch.trans ?_ q1; rw [hW1]; exact (Ch.refl [] _).alloc _
  have bx : BoxN W0 w.heap.size [.int .i64 k] := BoxN.quiet (by rw [hW1]; exact BoxN.new w _ _) q1
  have bi : BoxN W0 (w.heap.size + 1) [.int .i64 0] := BoxN.quiet (by rw [hW2, ← s1]; exact BoxN.new W1 _ _) q2
  have bs : BoxN W0 (w.heap.size + 1 + 1) [.int .i64 0, .int .i64 0, .int .u64 0, .int .u64 0] := BoxN.quiet (by rw [hW3, ← s2]; exact BoxN.new W2 _ _) q3
  have bb : BoxN W0 (w.heap.size + 1 + 1 + 1) [.bool false] := BoxN.quiet (by rw [hW4, ← s3]; exact BoxN.new W3 _ _) q4
  have b1 : BoxN W0 (w.heap.size + 1 + 1 + 1 + 1) [.pointer p] := BoxN.quiet (by rw [hW5, ← s4]; exact BoxN.new W4 _ _) q5
  have b2 : BoxN W0 (w.heap.size + 1 + 1 + 1 + 1 + 1) [.func (.func 36) #[] #[.pointer (some ⟨w.heap.size, 0, none⟩)]] := by rw [hW0, ← s5]; exact BoxN.new W5 _ _
  rw [← hW1, ← hW2, ← hW3, ← hW4, ← hW5, ← hW0]
  clear hW0 hW1 hW2 hW3 hW4 hW5 s1 s2 s3 s4 s5 q1 q2 q3 q4 q5
  have hq0 : FindG w p k W0 := ⟨.quiet hc0, (b1 0 _ rfl).1, (b2 0 _ rfl).1, (bx 0 _ rfl).1⟩
  clear hc0 b1 b2 bx
  refine wpIn_range_p rfl h1 (gf := 56) (lb := #[.pointer (some ⟨w.heap.size + 1 + 1 + 1 + 1, 0, none⟩), .pointer (some ⟨w.heap.size + 1 + 1 + 1 + 1 + 1, 0, none⟩)]) rfl trivial (enters_of Tryz.func56 (by kernel_rfl) rfl)
    (those_stops (m + 6 - 1) (Good := FindG w p k) (p := p) (n := n) (Bs := fun i => (f i).B) (F := 36) (lb := #[.pointer (some ⟨w.heap.size, 0, none⟩)]) (q := fun i => lookB (f i).L k)
      ⟨enters_of Tryz.func36 (by kernel_rfl) rfl, fun W g => g.c1, fun W g => g.c2, fun W g => (HO.out.quiet g.q).bat, fun W g i hi => by
        rw [app1]
        exact find1_any ((HO.out.quiet g.q).wh hi) HK.out _ g.cx, fun W W' g hc => g.quiet hc⟩ W0 (fun W hB => hq0.quiet (.of_below hB)))
    (fun A B hAB k o hk _ _ => (hAB.block k (Array.getElem?_eq_some_iff.1 hk).1 (by simp)).trans hk)
    (fun h k g => k (h g)) (fun W l o o' hl ho hc _ _ g => gq_b l o o' (by omega) ho hc g) (fun _ => rfl)
    (FindI w p n f k)
    (FindX w p n f k)
    (OwnFrom.and (ownFrom_gq (by omega)) (OwnFrom.and (OwnFrom.and (Own.from (boxN_own _ (fun _ => _)) _) (OwnFrom.and (Own.from (boxN_own _ (fun _ => _)) _) (Own.from (boxN_own _ (fun _ => _)) _))) (ownFrom_pure _ (fun pre : List (SuchC n fun i => lookB (f i).L k) => pre = []))))
    (fun s A B hs hc => ⟨hs.1.quiet hc, ⟨hs.2.1.1.quiet hc, hs.2.1.2.1.quiet hc, hs.2.1.2.2.quiet hc⟩, hs.2.2⟩)
    (fun c => OwnFrom.and (ownFrom_gq (by omega)) (OwnFrom.and (OwnFrom.and (Own.from (boxN_own _ (fun pre : List (SuchC n fun i => lookB (f i).L k) => [.int .i64 (((valsC pre).headD 0 : Nat) : Int)])) _) (OwnFrom.and (Own.from (boxN_own _ (fun pre : List (SuchC n fun i => lookB (f i).L k) => [.int .i64 ((findS (f ((valsC pre).headD 0)).L k).lv : Int), .int .i64 (findS (f ((valsC pre).headD 0)).L k).sl, .int .u64 (findS (f ((valsC pre).headD 0)).L k).at', .int .u64 (findS (f ((valsC pre).headD 0)).L k).due])) _) (Own.from (boxN_own _ (fun _ => _)) _))) (ownFrom_pure _ (fun pre : List (SuchC n fun i => lookB (f i).L k) => c = .ret ∧ ∃ x, pre = [x]))))
    ⟨hq0, ⟨bi, bs, bb⟩, rfl⟩
    (fun x => { tmps := #[.pointer p, .int .i64 k, undef, .pointer (some ⟨w.heap.size, 0, none⟩), .pointer (some ⟨w.heap.size + 1, 0, none⟩), .pointer (some ⟨w.heap.size + 1 + 1, 0, none⟩), .pointer (some ⟨w.heap.size + 1 + 1 + 1, 0, none⟩), .int .i64 ((x.1 : Nat) : Int), .pointer (some ⟨(f x.1).B, 0, none⟩), undef, undef, .pointer p, .func (.func 36) #[] #[.pointer (some ⟨w.heap.size, 0, none⟩)], .func (.func 56) #[] #[.pointer (some ⟨w.heap.size + 1 + 1 + 1 + 1, 0, none⟩), .pointer (some ⟨w.heap.size + 1 + 1 + 1 + 1 + 1, 0, none⟩)], .int .i64 ((x.1 : Nat) : Int), .pointer (some ⟨(f x.1).B, 0, none⟩), undef, undef, undef, undef, undef, undef, undef, undef, undef, undef], defers := [] }) ?assign ?body ?done ?stop
  case assign =>
    intro l x W K hK
    gi_wp2
    exact hK
  case body =>
    rintro l pre x W ⟨hq, ⟨hi, hs, hb⟩, rfl⟩ _
    have HF := Lib.hid (find_any ((HO.out.quiet hq.q).wh x.2.1) HK.out)
    have hcx := hq.cx
    have HQ := Lib.hid hq
    have HI := Lib.hid hi
    have HS := Lib.hid hs
    have HB := Lib.hid hb
    clear hq hi hs hb hq0 bi bs bb
    gi_wp2_with fail
    obtain ⟨c, hxc⟩ : ∃ c, c = x.1 := ⟨_, rfl⟩
    obtain ⟨lb, hlb⟩ : ∃ b, b = lookB (f c).L k := ⟨_, rfl⟩
    have hlt : lb = true := by rw [hlb, hxc]; exact x.2.2
    obtain ⟨sp, hsp⟩ : ∃ s, s = findS (f c).L k := ⟨_, rfl⟩
    rw [← hxc, ← hlb, ← hsp, hlt] at HF
    rw [← hxc]
    have HSp := Lib.hid hsp
    have HXc := Lib.hid hxc
    obtain ⟨lv, sl, at', due⟩ := sp
    clear hlb hlt hsp hxc
    with_reducible refine (CallsIn.inRound l (callsIn_wide.2 HF.out)).mono ?_
    rintro e w1 ⟨rfl, hc⟩
    unfold spV
    gi_wp2_with fail
    obtain ⟨W2, hW2⟩ : ∃ W2, W2 = w1.alloc (.cells #[.int .i64 (lv : Int), .int .i64 sl, .int .u64 at', .int .u64 due] 40) := ⟨_, rfl⟩
    obtain ⟨d0, d1, d2, d3⟩ := Four.new w1 (.int .i64 (lv : Int)) (.int .i64 sl) (.int .u64 at') (.int .u64 due) 40
    have hc2 : Ch [] W W2 := by rw [hW2]; exact hc.alloc _
    have hw1 : W.heap.size ≤ w1.heap.size := hc.size
    rw [← hW2] at d0 d1 d2 d3 ⊢
    obtain ⟨g0, hg0⟩ : ∃ g, g = w1.heap.size := ⟨_, rfl⟩
    rw [← hg0] at d0 d1 d2 d3 hw1 ⊢
    have HI2 := Lib.hid (HI.out.quiet hc2)
    have HS2 := Lib.hid (HS.out.quiet hc2)
    have HB2 := Lib.hid (HB.out.quiet hc2)
    have hlb := cell_lt (HB.out 0 _ rfl).1
    simp only at hlb
    have i0 := (HI2.out 0 _ rfl).1
    have i1 := (HI2.out 0 _ rfl).2
    have b0 := (HB2.out 0 _ rfl).1
    have b1 := (HB2.out 0 _ rfl).2
    obtain ⟨p0, q0⟩ := HS2.out 0 _ rfl
    obtain ⟨p1, q1⟩ := HS2.out 1 _ rfl
    obtain ⟨p2, q2⟩ := HS2.out 2 _ rfl
    obtain ⟨p3, q3⟩ := HS2.out 3 _ rfl
    have HC2 := Lib.hid hc2
    have hn1 : ¬ w.heap.size + 1 = g0 := by omega
    have hn2 : ¬ w.heap.size + 1 + 1 = g0 := by omega
    obtain ⟨k1, k2, k3, k4⟩ := set_three HI2.out HS2.out HB2.out (.int .i64 (c : Int)) (.bool true) (.int .i64 (lv : Int)) (.int .i64 sl) (.int .u64 at') (.int .u64 due)
    have hgq := (HQ.out.quiet hc2).step k4 (fun _ e => .inr (by omega)) (by omega) (by omega) (by omega)
    have hke := (ChP.quiet (S := fun k => w.heap.size + 1 ≤ k ∧ k ≤ w.heap.size + 1 + 1 + 1) hc2).trans k4
    have HE := Lib.hid (show KeepsFrom W0.heap.size W (((((((W2.setCell ⟨w.heap.size + 1, 0, none⟩ (.int .i64 (c : Int))).setCell ⟨w.heap.size + 1 + 1, 0, none⟩ (.int .i64 (lv : Int))).setCell ⟨w.heap.size + 1 + 1, 1, none⟩ (.int .i64 sl)).setCell ⟨w.heap.size + 1 + 1, 2, none⟩ (.int .u64 at')).setCell ⟨w.heap.size + 1 + 1, 3, none⟩ (.int .u64 due)).setCell ⟨w.heap.size + 1 + 1 + 1, 0, none⟩ (.bool true)).drew) ∧ FindX w p n f k .ret ([] ++ [x]) (((((((W2.setCell ⟨w.heap.size + 1, 0, none⟩ (.int .i64 (c : Int))).setCell ⟨w.heap.size + 1 + 1, 0, none⟩ (.int .i64 (lv : Int))).setCell ⟨w.heap.size + 1 + 1, 1, none⟩ (.int .i64 sl)).setCell ⟨w.heap.size + 1 + 1, 2, none⟩ (.int .u64 at')).setCell ⟨w.heap.size + 1 + 1, 3, none⟩ (.int .u64 due)).setCell ⟨w.heap.size + 1 + 1 + 1, 0, none⟩ (.bool true)).drew) from by
        generalize ((((((W2.setCell ⟨w.heap.size + 1, 0, none⟩ (.int .i64 (c : Int))).setCell ⟨w.heap.size + 1 + 1, 0, none⟩ (.int .i64 (lv : Int))).setCell ⟨w.heap.size + 1 + 1, 1, none⟩ (.int .i64 sl)).setCell ⟨w.heap.size + 1 + 1, 2, none⟩ (.int .u64 at')).setCell ⟨w.heap.size + 1 + 1, 3, none⟩ (.int .u64 due)).setCell ⟨w.heap.size + 1 + 1 + 1, 0, none⟩ (.bool true)) = WF at k1 k2 k3 hgq hke ⊢
        refine ⟨hke.drew.keeps (fun _ e => by omega), ⟨hgq.ch.drew, hgq.c1, hgq.c2, hgq.cx⟩, ⟨?_, ?_, k3.drew⟩, rfl, x, rfl⟩
        · show BoxN _ _ [.int .i64 ((x.1 : Nat) : Int)]
          rw [← HXc.out]
          exact k1.drew
        · show BoxN _ _ [.int .i64 ((findS (f x.1).L k).lv : Int), .int .i64 (findS (f x.1).L k).sl, .int .u64 (findS (f x.1).L k).at', .int .u64 (findS (f x.1).L k).due]
          rw [← HXc.out, ← HSp.out]
          exact k2.drew)
    clear hc hc2 hW2 hg0 hw1 hlb k1 k2 k3 k4 hgq hke
    gi_region
    all_goals gi_wp2
    all_goals exact HE.out
  case done =>
    rintro D ys W hD hys ⟨hq, ⟨hi, hs, hb⟩, rfl⟩ hK
    obtain ⟨e1, e2, e3⟩ := own_none hys.symm
    rw [← HAc.out] at e1
    rw [← HAs.out] at e2
    rw [← HAb.out] at e3
    have HQ := Lib.hid hq
    have HI := Lib.hid hi
    have HS := Lib.hid hs
    have HB := Lib.hid hb
    have i0 := (hi 0 _ rfl).1
    have i1 := (hi 0 _ rfl).2
    have b0 := (hb 0 _ rfl).1
    have b1 := (hb 0 _ rfl).2
    obtain ⟨p0, q0⟩ := hs 0 _ rfl
    obtain ⟨p1, q1⟩ := hs 1 _ rfl
    obtain ⟨p2, q2⟩ := hs 2 _ rfl
    obtain ⟨p3, q3⟩ := hs 3 _ rfl
    have HE := Lib.hid (And.intro e1 (And.intro e2 e3))
    clear hq hi hs hb hys e1 e2 e3 hq0 bi bs bb
    gi_wp2
    obtain ⟨k1, k2, k3, k4⟩ := set_three HI.out HS.out HB.out (.int .i64 0) (.bool false) (.int .i64 0) (.int .i64 0) (.int .u64 0) (.int .u64 0)
    have hgq := HQ.out.step k4 (fun _ e => .inr (by omega)) (by omega) (by omega) (by omega)
    have hK' := (k4.keeps (B := W0.heap.size) (by omega)).same D _ (by omega) hK rfl
    refine ⟨by simp, .inl ⟨_, _, rfl, run_takeDeferred hK', ?_⟩⟩
    have j1 := (k1.put hK' rfl (.deferred none) 0 _ rfl).1
    have j2 := (k3.put hK' rfl (.deferred none) 0 _ rfl).1
    obtain ⟨m0, -⟩ := k2.put hK' rfl (.deferred none) 0 _ rfl
    obtain ⟨m1, -⟩ := k2.put hK' rfl (.deferred none) 1 _ rfl
    obtain ⟨m2, -⟩ := k2.put hK' rfl (.deferred none) 2 _ rfl
    obtain ⟨m3, -⟩ := k2.put hK' rfl (.deferred none) 3 _ rfl
    refine ⟨.tuple #[.int .i64 0, .agg #[.int .i64 0, .int .i64 0, .int .u64 0, .int .u64 0], .bool false], ?_, ?_, (gq_b D _ _ (by omega) hK' rfl hgq).q⟩
    · simp [results, Tryz.f16, go_sem, j1, j2, m0, m1, m2, m3]
    · rw [HE.out.1, HE.out.2.1, HE.out.2.2]; rfl
  case stop =>
    rintro D c pre W hD hpre ⟨hq, ⟨hi, hs, hb⟩, rfl, x, rfl⟩ hK
    obtain ⟨e1, e2, e3⟩ := own_head (show [x.1] <+: _ from hpre)
    rw [← HAc.out] at e1
    rw [← HAs.out] at e2
    rw [← HAb.out] at e3
    have HE := Lib.hid (And.intro e1 (And.intro e2 e3))
    have HQ := Lib.hid hq
    have HI := Lib.hid hi
    have HS := Lib.hid hs
    have HB := Lib.hid hb
    clear hq hi hs hb hpre e1 e2 e3 hq0 bi bs bb
    gi_wp2
    refine ⟨by simp, .inl ⟨_, _, rfl, run_takeDeferred hK, ?_⟩⟩
    have j1 := (HI.out.put hK rfl (.deferred none) 0 _ rfl).1
    have j2 := (HB.out.put hK rfl (.deferred none) 0 _ rfl).1
    obtain ⟨m0, -⟩ := HS.out.put hK rfl (.deferred none) 0 _ rfl
    obtain ⟨m1, -⟩ := HS.out.put hK rfl (.deferred none) 1 _ rfl
    obtain ⟨m2, -⟩ := HS.out.put hK rfl (.deferred none) 2 _ rfl
    obtain ⟨m3, -⟩ := HS.out.put hK rfl (.deferred none) 3 _ rfl
    refine ⟨.tuple #[.int .i64 ((x.1 : Nat) : Int), spV (findS (f x.1).L k), .bool true], ?_, ?_, (gq_b D _ _ (by omega) hK rfl HQ.out).q⟩
    · simp [results, Tryz.f16, go_sem, j1, j2, m0, m1, m2, m3, spV]
    · rw [HE.out.1, HE.out.2.1, HE.out.2.2]
theorem bfind_any {w : World} {base n : Nat} {p : Option Addr} {f : Nat → Wh} (h : BO w base p n f) {k : Int} (hk : wf64 k) :
    Calls Tryz.prog 16 #[.pointer p, .int .i64 k] w fun e W' =>
      e = .returned (.tuple #[.int .i64 ((ownC f n k : Nat) : Int), spV (ownS f n k), .bool (ownB f n k)]) ∧ Ch [] w W' := callsIn_wide.1 (bfind_in 0 h hk)
end Go.Proofs.YtnndofeomakpiaaGreatDoor

/-
  Open, Newest, Len.
-/
import Derived.Test.YtnnliimjemmekaaCaG
namespace Go.Proofs.Ytnnliimjemmekaa
open Go.RowKit Go.Shelf Go.Maps
open rC (Th RL flat tv objT)

attribute [local go_sem] Oper.semAt_some

/-- What a round of a loop over all callbacks may turn: the block b alone. -/
def Kpb (b : Nat) (X Y : World) : Prop := Keep (fun k => k ≠ b) X Y ∧ X.heap.size ≤ Y.heap.size
theorem Kpb.trans {b : Nat} {X Y Z : World} (h : Kpb b X Y) (k : Kpb b Y Z) : Kpb b X Z := ⟨h.1.trans k.1, Nat.le_trans h.2 k.2⟩
theorem Kpb.put {b : Nat} (W : World) (l : Nat) (o o' : Obj) (h : W.heap[l]? = some o) (hc : o.isCells = false) : Kpb b W (W.putObj l o') := ⟨Keep.put W l o o' h hc, by simp [World.putObj]⟩
theorem Kpb.alloc {b : Nat} (W : World) (o : Obj) : Kpb b W (W.alloc o) := ⟨Keep.alloc W o, by simp⟩
theorem Kpb.set {b : Nat} (W : World) (v : Value) : Kpb b W (W.setCell ⟨b, 0, none⟩ v) :=
  ⟨fun k o hk h _ => (Below.heap_setCell _ _ _ _ hk).trans h, by simp [World.setCell]⟩

theorem all_seq (m : Nat) {w : World} {p : Option Addr} {xs : List Th} {n₀ Bn b : Nat} (h : LP n₀ w p xs) (hn : n₀ ≤ b) (hb : b < w.heap.size) (hBb : Bn ≠ b) (hc : w.cell? ⟨Bn, 0, none⟩ = some (.pointer p)) :
    SeqP Fence.wide m Try.prog 36 #[.pointer (some ⟨Bn, 0, none⟩)] (fun x : Th => #[tv x]) (Ch []) (Kpb b) (fun ys _ => ys = xs) (fun pre => pre <+: xs) w := by
  intro l J Jx W hW hJ hY h0
  have hc' : W.cell? ⟨Bn, 0, none⟩ = some (.pointer p) := (hW.cell (p := ⟨Bn, 0, none⟩) (cell_lt hc)).trans hc
  rcases h with ⟨rfl, rfl⟩ | ⟨base, top, A, G, n, last, R, Q, f, rfl, ht, hL, rfl⟩
  · have HJ := Lib.hid h0
    clear hY hJ h0 hc hW
    refine callsIn_of_wp Try.func36 rfl trivial ?_ rfl
    simp only [Try.ntmps36, List.size_toArray, List.length_cons, List.length_nil, Nat.reduceAdd, Nat.reduceSub, Array.replicate_succ, Array.replicate_zero, List.push_toArray, List.append_toArray, List.nil_append, List.cons_append]
    gi_wp2
    refine bodyPost_ret (results_none rfl _ _ _) rfl ?_
    exact ⟨⟨_, rfl⟩, .inl ⟨_, rfl, HJ.out⟩⟩
  · exact all1_in m l Bn b hBb (fun e => by have := e.2; omega) hb J Jx hJ hY W hW.size hc' (hL.below hW) h0

/-- What holds while a loop goes over all callbacks: the box b, and that nothing else turned. -/
def OI (w : World) (b : Nat) (g : List Th → Int) (pre : List Th) (W : World) : Prop := Boxed W b 3 (.int .i64 (g pre)) ∧ Below w.heap.size w W
theorem OI.from' {w : World} {b B : Nat} {g : List Th → Int} (hB : w.heap.size ≤ B) : OwnFrom B (OI w b g) := by
  unfold OI
  exact OwnFrom.and (Go.Own.from (boxed_own b 3 (fun pre : List Th => .int .i64 (g pre))) _) (ownFrom_below (Nat.le_refl _) hB)
theorem OI.sta {w : World} {b : Nat} {g : List Th → Int} {pre : List Th} {X Y : World} (h : OI w b g pre X) (hc : Ch [] X Y) : OI w b g pre Y :=
  ⟨h.1.kept hc.grown0 (by simp), h.2.trans (hc.below _ (fun k hk => by simp at hk) h.2.size)⟩
theorem OI.set {w : World} {b : Nat} {g : List Th → Int} {pre : List Th} {X : World} (h : OI w b g pre X) (hb : w.heap.size ≤ b) {q : List Th} {z : Int} (hz : g q = z) : OI w b g q (X.setCell ⟨b, 0, none⟩ (.int .i64 z)) := by
  subst hz
  exact ⟨h.1.set _, h.2.setCell (p := ⟨b, 0, none⟩) hb _⟩
theorem OI.ch {w W : World} {b : Nat} {g : List Th → Int} {pre : List Th} (h : OI w b g pre W) : Ch [] w W := .of_below h.2

/-- How many of none have a generation; the greatest one; how many. -/
def zcI (xs : List Th) : Int := (zc xs : Int)
def mxI (xs : List Th) : Int := xs.foldl (fun m x => if m < x.2 then x.2 else m) 0
def lnI (xs : List Th) : Int := (xs.length : Int)
theorem mxI_snoc (xs : List Th) (x : Th) : mxI (xs ++ [x]) = if mxI xs < x.2 then x.2 else mxI xs := by unfold mxI; rw [List.foldl_append]; rfl
set_option maxRecDepth 100000 in
set_option maxHeartbeats 2000000 in
theorem open_in (m : Nat) {w : World} {p : Option Addr} {xs : List Th} (h : LP w.heap.size w p xs) (hx : xs.length ≤ 4096) :
    CallsIn Fence.wide (m + 6) Try.prog 16 #[.pointer p] w fun e w' => e = .returned (.int .i64 (zcI xs)) ∧ Below w.heap.size w w' := by
  have HP := Lib.hid h
  have HX := Lib.hid hx
  clear h hx
  have hw : ∀ f, Fence.wide.fn f := fun _ => trivial
  have hd : Fence.wide.depth = none := rfl
  have h1 : 1 ≤ m + 6 := by omega
  refine callsIn_of_wp_marks Try.func16 rfl trivial ?_ rfl
  simp only [Try.ntmps16, List.size_toArray, List.length_cons, List.length_nil, Nat.reduceAdd, Nat.reduceSub, Array.replicate_succ, Array.replicate_zero, List.push_toArray, List.append_toArray, List.nil_append, List.cons_append]
  gi_wp2_with (gi_at_call 28; refine (all_in _ _ _).mono ?_; rintro e w' ⟨rfl, rfl⟩)
  obtain ⟨W1, hW1⟩ : ∃ W1, W1 = w.alloc (.cells #[.int .i64 0] 3) := ⟨_, rfl⟩
  obtain ⟨W0, hW0⟩ : ∃ W0, W0 = W1.alloc (.cells #[.pointer p] 24) := ⟨_, rfl⟩
  have hs1 : W1.heap.size = w.heap.size + 1 := by rw [hW1]; simp
  have hs0 : W0.heap.size = w.heap.size + 1 + 1 := by rw [hW0]; simp [hs1]
  have hbn : Boxed W0 w.heap.size 3 (.int .i64 0) := by rw [hW0, hW1]; exact (Boxed.new w _ _).alloc _
  have hbp : Boxed W0 (w.heap.size + 1) 24 (.pointer p) := by rw [hW0, ← hs1]; exact Boxed.new W1 _ _
  have hB0 : Below w.heap.size w W0 := by rw [hW0, hW1]; exact ((Below.refl _ w).alloc (Nat.le_refl _) _).alloc (by simp) _
  rw [← hW1, ← hW0]
  clear hW0 hW1 hs1
  have hLP : LP w.heap.size W0 p xs := by
    rcases HP.out with h | ⟨base, top, A, G, n, last, R, Q, f, e, ht, hL, hx⟩
    · exact .inl h
    · exact .inr ⟨base, top, A, G, n, last, R, Q, f, e, ht, hL.below hB0, hx⟩
  have HOI := Lib.hid (show OI w w.heap.size zcI [] W0 from ⟨hbn, hB0⟩)
  refine wpIn_range_x rfl h1 (gf := 36) (lb := #[.pointer (some ⟨w.heap.size + 1, 0, none⟩)]) rfl trivial (enters_of Try.func36 (by kernel_rfl) rfl)
    (ownFrom_pure _ _) (all_seq (m + 6 - 1) (b := w.heap.size) hLP (Nat.le_refl _) (by omega) (by omega) hbp.cell)
    (fun A B hAB j o hj _ _ => (hAB.block j (Array.getElem?_eq_some_iff.1 hj).1 (by simp)).trans hj)
    (fun h k => h.trans k) (fun W l o o' _ ho hc _ _ => Kpb.put W l o o' ho hc) (fun _ => rfl)
    (OI w w.heap.size zcI) (fun _ _ _ => False) (OI.from' (by omega)) (fun s A B hs hc => hs.sta hc) (fun _ _ _ _ _ hs _ _ => hs)
    HOI.out objT (fun W x => Kpb.alloc W _) (fun _ => rfl)
    (fun x b => { tmps := #[.pointer p, undef, .int .i64 0, .pointer (some ⟨w.heap.size, 0, none⟩), .pointer (some ⟨b, 0, none⟩), .pointer p, .func (.func 36) #[] #[.pointer (some ⟨w.heap.size + 1, 0, none⟩)], tv x, undef, undef, undef, undef, undef, undef], defers := [] }) ?assign ?body ?done ?stop
  case assign =>
    intro l x W K hK
    unfold objT at hK
    unfold tv
    gi_wp2
    first
      | exact hK
      | (unfold tv at hK; simpa using hK)
  case body =>
    rintro l pre x b W hI hpre _ hbx
    obtain ⟨x0, x1⟩ := rC.cells_two hbx
    have hlen : pre.length + 1 ≤ 4096 := by
      have h2 := hpre.length_le
      have h3 := HX.out
      simp at h2
      omega
    have HI := Lib.hid hI
    have hv := hI.1
    have hc := hv.cell
    have hf := hv.frozen
    have hz := zc_le pre
    have hq := zc_snoc pre x
    unfold zcI at hc
    obtain ⟨q, hqe⟩ : ∃ q, q = zc pre := ⟨_, rfl⟩
    rw [← hqe] at hz hq hc
    have HQ := Lib.hid hq
    have hw1 : IntKind.i64.wrap ((q : Int) + 1) = (q : Int) + 1 := IntWalk.i64_in _ (by omega)
    have HQe := Lib.hid hqe
    clear hI hv hq hqe hLP HOI hbn hbp hbx
    unfold tv
    by_cases hx0 : x.2 = 0
    · have HZ := Lib.hid (show zc (pre ++ [x]) = q + 1 by rw [HQ.out, if_pos hx0])
      rw [hx0] at x1
      gi_wp2
      refine ⟨(KeepsOthers.setCell _ _ _).from _, Kpb.set _ _, HI.out.set (Nat.le_refl _) ?_⟩
      unfold zcI
      rw [HZ.out]
      rfl
    · have HZ := Lib.hid (show zc (pre ++ [x]) = q by rw [HQ.out, if_neg hx0, Nat.add_zero])
      have hxb : (x.2 == 0) = false := beq_false_of_ne hx0
      gi_wp2
      refine ⟨KeepsFrom.refl _ _, ⟨Keep.refl _ _, Nat.le_refl _⟩, ?_⟩
      unfold OI zcI
      rw [HZ.out, HQe.out]
      exact HI.out
  case done =>
    rintro D ys W hD rfl hI hK
    have HI := Lib.hid hI
    have hc := hI.1.cell
    clear hI
    gi_wp2
    refine ⟨by simp, .inl ⟨_, _, rfl, run_takeDeferred hK, ?_⟩⟩
    exact ⟨_, results_tmp rfl _ _ _, rfl, HI.out.2.trans (belowK_b (w := w) (Nat.le_refl _) W D _ _ (by omega) hK rfl rfl)⟩
  case stop =>
    rintro D c pre W _ _ h _
    exact h.elim
set_option maxRecDepth 100000 in
set_option maxHeartbeats 2000000 in
theorem newest_in (m : Nat) {w : World} {p : Option Addr} {xs : List Th} (h : LP w.heap.size w p xs) (hx : xs.length ≤ 4096) :
    CallsIn Fence.wide (m + 6) Try.prog 17 #[.pointer p] w fun e w' => e = .returned (.int .i64 (mxI xs)) ∧ Below w.heap.size w w' := by
  have HP := Lib.hid h
  have HX := Lib.hid hx
  clear h hx
  have hw : ∀ f, Fence.wide.fn f := fun _ => trivial
  have hd : Fence.wide.depth = none := rfl
  have h1 : 1 ≤ m + 6 := by omega
  refine callsIn_of_wp_marks Try.func17 rfl trivial ?_ rfl
  simp only [Try.ntmps17, List.size_toArray, List.length_cons, List.length_nil, Nat.reduceAdd, Nat.reduceSub, Array.replicate_succ, Array.replicate_zero, List.push_toArray, List.append_toArray, List.nil_append, List.cons_append]
  gi_wp2_with (gi_at_call 28; refine (all_in _ _ _).mono ?_; rintro e w' ⟨rfl, rfl⟩)
  obtain ⟨W1, hW1⟩ : ∃ W1, W1 = w.alloc (.cells #[.int .i64 0] 3) := ⟨_, rfl⟩
  obtain ⟨W0, hW0⟩ : ∃ W0, W0 = W1.alloc (.cells #[.pointer p] 24) := ⟨_, rfl⟩
  have hs1 : W1.heap.size = w.heap.size + 1 := by rw [hW1]; simp
  have hs0 : W0.heap.size = w.heap.size + 1 + 1 := by rw [hW0]; simp [hs1]
  have hbn : Boxed W0 w.heap.size 3 (.int .i64 0) := by rw [hW0, hW1]; exact (Boxed.new w _ _).alloc _
  have hbp : Boxed W0 (w.heap.size + 1) 24 (.pointer p) := by rw [hW0, ← hs1]; exact Boxed.new W1 _ _
  have hB0 : Below w.heap.size w W0 := by rw [hW0, hW1]; exact ((Below.refl _ w).alloc (Nat.le_refl _) _).alloc (by simp) _
  rw [← hW1, ← hW0]
  clear hW0 hW1 hs1
  have hLP : LP w.heap.size W0 p xs := by
    rcases HP.out with h | ⟨base, top, A, G, n, last, R, Q, f, e, ht, hL, hx⟩
    · exact .inl h
    · exact .inr ⟨base, top, A, G, n, last, R, Q, f, e, ht, hL.below hB0, hx⟩
  have HOI := Lib.hid (show OI w w.heap.size mxI [] W0 from ⟨hbn, hB0⟩)
  refine wpIn_range_x rfl h1 (gf := 36) (lb := #[.pointer (some ⟨w.heap.size + 1, 0, none⟩)]) rfl trivial (enters_of Try.func36 (by kernel_rfl) rfl)
    (ownFrom_pure _ _) (all_seq (m + 6 - 1) (b := w.heap.size) hLP (Nat.le_refl _) (by omega) (by omega) hbp.cell)
    (fun A B hAB j o hj _ _ => (hAB.block j (Array.getElem?_eq_some_iff.1 hj).1 (by simp)).trans hj)
    (fun h k => h.trans k) (fun W l o o' _ ho hc _ _ => Kpb.put W l o o' ho hc) (fun _ => rfl)
    (OI w w.heap.size mxI) (fun _ _ _ => False) (OI.from' (by omega)) (fun s A B hs hc => hs.sta hc) (fun _ _ _ _ _ hs _ _ => hs)
    HOI.out objT (fun W x => Kpb.alloc W _) (fun _ => rfl)
    (fun x b => { tmps := #[.pointer p, undef, .int .i64 0, .pointer (some ⟨w.heap.size, 0, none⟩), .pointer (some ⟨b, 0, none⟩), .pointer p, .func (.func 36) #[] #[.pointer (some ⟨w.heap.size + 1, 0, none⟩)], tv x, undef, undef, undef, undef, undef], defers := [] }) ?assign ?body ?done ?stop
  case assign =>
    intro l x W K hK
    unfold objT at hK
    unfold tv
    gi_wp2
    first
      | exact hK
      | (unfold tv at hK; simpa using hK)
  case body =>
    rintro l pre x b W hI hpre _ hbx
    obtain ⟨x0, x1⟩ := rC.cells_two hbx
    have hlen : pre.length + 1 ≤ 4096 := by
      have h2 := hpre.length_le
      have h3 := HX.out
      simp at h2
      omega
    have HI := Lib.hid hI
    have hv := hI.1
    have hc := hv.cell
    have hf := hv.frozen
    have hq := mxI_snoc pre x
    obtain ⟨q, hqe⟩ : ∃ q, q = mxI pre := ⟨_, rfl⟩
    rw [← hqe] at hq hc
    have HQ := Lib.hid hq
    clear hI hv hq hqe hLP HOI hbn hbp hbx
    unfold tv
    by_cases hx0 : q < x.2
    · have HZ := Lib.hid (show mxI (pre ++ [x]) = x.2 by rw [HQ.out, if_pos hx0])
      gi_wp2
      refine ⟨(KeepsOthers.setCell _ _ _).from _, Kpb.set _ _, HI.out.set (Nat.le_refl _) ?_⟩
      rw [HZ.out]
    · have HZ := Lib.hid (show mxI (pre ++ [x]) = q by rw [HQ.out, if_neg hx0])
      gi_wp2
      refine ⟨(KeepsOthers.setCell _ _ _).from _, Kpb.set _ _, HI.out.set (Nat.le_refl _) ?_⟩
      rw [HZ.out]
  case done =>
    rintro D ys W hD rfl hI hK
    have HI := Lib.hid hI
    have hc := hI.1.cell
    clear hI
    gi_wp2
    refine ⟨by simp, .inl ⟨_, _, rfl, run_takeDeferred hK, ?_⟩⟩
    exact ⟨_, results_tmp rfl _ _ _, rfl, HI.out.2.trans (belowK_b (w := w) (Nat.le_refl _) W D _ _ (by omega) hK rfl rfl)⟩
  case stop =>
    rintro D c pre W _ _ h _
    exact h.elim
set_option maxRecDepth 100000 in
set_option maxHeartbeats 2000000 in
theorem len_in (m : Nat) {w : World} {p : Option Addr} {xs : List Th} (h : LP w.heap.size w p xs) (hx : xs.length ≤ 4096) :
    CallsIn Fence.wide (m + 6) Try.prog 18 #[.pointer p] w fun e w' => e = .returned (.int .i64 (lnI xs)) ∧ Below w.heap.size w w' := by
  have HP := Lib.hid h
  have HX := Lib.hid hx
  clear h hx
  have hw : ∀ f, Fence.wide.fn f := fun _ => trivial
  have hd : Fence.wide.depth = none := rfl
  have h1 : 1 ≤ m + 6 := by omega
  refine callsIn_of_wp_marks Try.func18 rfl trivial ?_ rfl
  simp only [Try.ntmps18, List.size_toArray, List.length_cons, List.length_nil, Nat.reduceAdd, Nat.reduceSub, Array.replicate_succ, Array.replicate_zero, List.push_toArray, List.append_toArray, List.nil_append, List.cons_append]
  gi_wp2_with (gi_at_call 28; refine (all_in _ _ _).mono ?_; rintro e w' ⟨rfl, rfl⟩)
  obtain ⟨W1, hW1⟩ : ∃ W1, W1 = w.alloc (.cells #[.int .i64 0] 3) := ⟨_, rfl⟩
  obtain ⟨W0, hW0⟩ : ∃ W0, W0 = W1.alloc (.cells #[.pointer p] 24) := ⟨_, rfl⟩
  have hs1 : W1.heap.size = w.heap.size + 1 := by rw [hW1]; simp
  have hs0 : W0.heap.size = w.heap.size + 1 + 1 := by rw [hW0]; simp [hs1]
  have hbn : Boxed W0 w.heap.size 3 (.int .i64 0) := by rw [hW0, hW1]; exact (Boxed.new w _ _).alloc _
  have hbp : Boxed W0 (w.heap.size + 1) 24 (.pointer p) := by rw [hW0, ← hs1]; exact Boxed.new W1 _ _
  have hB0 : Below w.heap.size w W0 := by rw [hW0, hW1]; exact ((Below.refl _ w).alloc (Nat.le_refl _) _).alloc (by simp) _
  rw [← hW1, ← hW0]
  clear hW0 hW1 hs1
  have hLP : LP w.heap.size W0 p xs := by
    rcases HP.out with h | ⟨base, top, A, G, n, last, R, Q, f, e, ht, hL, hx⟩
    · exact .inl h
    · exact .inr ⟨base, top, A, G, n, last, R, Q, f, e, ht, hL.below hB0, hx⟩
  have HOI := Lib.hid (show OI w w.heap.size lnI [] W0 from ⟨hbn, hB0⟩)
  refine wpIn_range_n rfl h1 (gf := 36) (lb := #[.pointer (some ⟨w.heap.size + 1, 0, none⟩)]) rfl trivial (enters_of Try.func36 (by kernel_rfl) rfl)
    (ownFrom_pure _ _) (all_seq (m + 6 - 1) (b := w.heap.size) hLP (Nat.le_refl _) (by omega) (by omega) hbp.cell)
    (fun A B hAB j o hj _ _ => (hAB.block j (Array.getElem?_eq_some_iff.1 hj).1 (by simp)).trans hj)
    (fun h k => h.trans k) (fun W l o o' _ ho hc _ _ => Kpb.put W l o o' ho hc) (fun _ => rfl)
    (OI w w.heap.size lnI) (fun _ _ _ => False) (OI.from' (by omega)) (fun s A B hs hc => hs.sta hc) (fun _ _ _ _ _ hs _ _ => hs)
    HOI.out 
    (fun x => { tmps := #[.pointer p, undef, .int .i64 0, .pointer (some ⟨w.heap.size, 0, none⟩), .pointer p, .func (.func 36) #[] #[.pointer (some ⟨w.heap.size + 1, 0, none⟩)], tv x, undef, undef, undef], defers := [] }) ?assign ?body ?done ?stop
  case assign =>
    intro l x W K hK
    unfold tv
    gi_wp2
    first
      | exact hK
      | (unfold tv at hK; simpa using hK)
  case body =>
    rintro l pre x W hI hpre
    have hlen : pre.length + 1 ≤ 4096 := by
      have h2 := hpre.length_le
      have h3 := HX.out
      simp at h2
      omega
    have HI := Lib.hid hI
    have hv := hI.1
    have hc := hv.cell
    have hf := hv.frozen
    unfold lnI at hc
    obtain ⟨q, hqe⟩ : ∃ q, q = pre.length := ⟨_, rfl⟩
    have HQ := Lib.hid (show (pre ++ [x]).length = q + 1 by rw [hqe]; simp)
    rw [← hqe] at hc hlen
    have hw1 : IntKind.i64.wrap ((q : Int) + 1) = (q : Int) + 1 := IntWalk.i64_in _ (by omega)
    clear hI hv hqe hLP HOI hbn hbp
    unfold tv
    · gi_wp2
      refine ⟨(KeepsOthers.setCell _ _ _).from _, Kpb.set _ _, HI.out.set (Nat.le_refl _) ?_⟩
      unfold lnI
      rw [HQ.out]
      rfl
  case done =>
    rintro D ys W hD rfl hI hK
    have HI := Lib.hid hI
    have hc := hI.1.cell
    clear hI
    gi_wp2
    refine ⟨by simp, .inl ⟨_, _, rfl, run_takeDeferred hK, ?_⟩⟩
    exact ⟨_, results_tmp rfl _ _ _, rfl, HI.out.2.trans (belowK_b (w := w) (Nat.le_refl _) W D _ _ (by omega) hK rfl rfl)⟩
  case stop =>
    rintro D c pre W _ _ h _
    exact h.elim
end Go.Proofs.Ytnnliimjemmekaa

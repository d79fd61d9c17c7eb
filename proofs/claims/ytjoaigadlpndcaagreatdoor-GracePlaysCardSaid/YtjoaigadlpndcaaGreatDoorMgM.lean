/-
  The document's answer for layer 11: its list of callbacks in memory; Count, Open.
  The document's answer for layer 11: Add.
-/
import Derived.Test.YtjoaigadlpndcaaGreatDoorMgJ
namespace Go.Proofs.YtjoaigadlpndcaaGreatDoor
open Go.RowKit Go.Maps

attribute [local go_sem] Oper.semAt_some

/-- A callback of the answer's. -/
structure Cb where
  c : Int
  id : Int
  gen : Int
/-- The answer's callbacks, cell by cell. -/
def flat3 (M : List Cb) : List Value := M.flatMap fun x => [.int .i64 x.c, .int .i64 x.id, .int .i64 x.gen]
theorem flat3_len (l : List Cb) : (flat3 l).length = l.length * 3 := by
  induction l with
  | nil => rfl
  | cons a t ih => rw [flat3, List.flatMap_cons, List.length_append, show (t.flatMap fun x => [Value.int .i64 x.c, .int .i64 x.id, .int .i64 x.gen]) = flat3 t from rfl, ih]; simp; omega
theorem flat3_snoc (l : List Cb) (x : Cb) : flat3 (l ++ [x]) = flat3 l ++ [.int .i64 x.c, .int .i64 x.id, .int .i64 x.gen] := by simp [flat3]
theorem flat3_at (l : List Cb) (k : Nat) (x : Cb) (h : l[k]? = some x) : (flat3 l)[k * 3]? = some (.int .i64 x.c) ∧ (flat3 l)[k * 3 + 1]? = some (.int .i64 x.id) ∧ (flat3 l)[k * 3 + 2]? = some (.int .i64 x.gen) := by
  induction l generalizing k with
  | nil => simp at h
  | cons a t ih =>
    rw [flat3, List.flatMap_cons]
    cases k with
    | zero => simp at h; subst h; simp
    | succ k =>
      have := ih k (by simpa using h)
      rw [show (k + 1) * 3 = k * 3 + 3 by omega]
      simpa [flat3] using this
theorem oneCell3 (l : List Cb) : ∀ u ∈ flat3 l, u.oneCell' = true := by
  intro u hu
  simp only [flat3, List.mem_flatMap] at hu
  obtain ⟨x, _, hx⟩ := hu
  simp at hx
  rcases hx with rfl | rfl | rfl <;> rfl
/-- The answer's list, wherever it lies. -/
def RowC (w : World) (v : Value) (M : List Cb) : Prop := ∃ B, w.ownsRow B 105 3 v M.length (flat3 M)
theorem RowC.ch {w w' : World} {S : List Nat} {v : Value} {M : List Cb} (h : RowC w v M) (hc : Ch S w w') (hS : ∀ g, v.ownBlock = some g → g ∉ S) : RowC w' v M := by
  obtain ⟨B, h1, h2⟩ := h
  refine ⟨B, h1, ?_⟩
  rcases h2 with h2 | ⟨g, cap, cur, rfl, hb, hg, r⟩
  · exact .inl h2
  · exact .inr ⟨g, cap, cur, rfl, hb, (hc.block g (Array.getElem?_eq_some_iff.1 hg).1 (hS g rfl)).trans hg, r⟩
theorem RowC.quiet {w w' : World} {v : Value} {M : List Cb} (h : RowC w v M) (hc : Ch [] w w') : RowC w' v M := h.ch hc (by simp)
theorem RowC.form {w : World} {v : Value} {M : List Cb} (h : RowC w v M) : ∃ a cap, v = .slice a M.length cap := by
  obtain ⟨B, h⟩ := h
  exact own_form h
theorem RowC.lt {w : World} {v : Value} {M : List Cb} (h : RowC w v M) {g : Nat} (e : v.ownBlock = some g) : g < w.heap.size := by
  obtain ⟨B, h⟩ := h
  exact (h.lt g e).2
/-- One of its callbacks: the three cells. -/
theorem RowC.cells {w : World} {a : Option Addr} {n cap : Nat} {M : List Cb} (h : RowC w (.slice a n cap) M) {k : Nat} {x : Cb} (hx : M[k]? = some x) :
    ∃ g, a = some ⟨g, 0, none⟩ ∧ w.cell? ⟨g, k * 3, none⟩ = some (.int .i64 x.c) ∧ w.cell? ⟨g, k * 3 + 1, none⟩ = some (.int .i64 x.id) ∧ w.cell? ⟨g, k * 3 + 2, none⟩ = some (.int .i64 x.gen) := by
  obtain ⟨B, h⟩ := h
  have hk : k < M.length := (List.getElem?_eq_some_iff.1 hx).1
  obtain ⟨a', cap', e⟩ := own_form h
  cases e
  obtain ⟨g, rfl, _, _, _, hc⟩ := own_cells h 0 (by omega)
  obtain ⟨e0, e1, e2⟩ := flat3_at M k x hx
  exact ⟨g, rfl, (hc _ (by omega)).trans e0, (hc _ (by omega)).trans e1, (hc _ (by omega)).trans e2⟩

/-- Three cells of a block. -/
structure Three (w : World) (b : Nat) (x y z : Value) : Prop where
  c0 : w.cell? ⟨b, 0, none⟩ = some x
  c1 : w.cell? ⟨b, 1, none⟩ = some y
  c2 : w.cell? ⟨b, 2, none⟩ = some z
  f0 : w.frozen? ⟨b, 0, none⟩ = false
  f1 : w.frozen? ⟨b, 1, none⟩ = false
  f2 : w.frozen? ⟨b, 2, none⟩ = false
theorem Three.new (w : World) (x y z : Value) (t : TypeId) : Three (w.alloc (.cells #[x, y, z] t)) w.heap.size x y z :=
  ⟨by rw [World.cell?_alloc_at _ _ _ _ rfl]; rfl, by rw [World.cell?_alloc_at _ _ _ _ rfl]; rfl, by rw [World.cell?_alloc_at _ _ _ _ rfl]; rfl, World.frozen?_alloc_new w _ _ _, World.frozen?_alloc_new w _ _ _, World.frozen?_alloc_new w _ _ _⟩
theorem Three.ch {S : List Nat} {w w' : World} {b : Nat} {x y z : Value} (h : Three w b x y z) (hc : Ch S w w') (hb : b ∉ S) : Three w' b x y z :=
  have l : b < w.heap.size := cell_lt h.c0
  ⟨(hc.cell (p := ⟨b, 0, none⟩) l hb).trans h.c0, (hc.cell (p := ⟨b, 1, none⟩) l hb).trans h.c1, (hc.cell (p := ⟨b, 2, none⟩) l hb).trans h.c2, (hc.frozen (p := ⟨b, 0, none⟩) l hb).trans h.f0, (hc.frozen (p := ⟨b, 1, none⟩) l hb).trans h.f1, (hc.frozen (p := ⟨b, 2, none⟩) l hb).trans h.f2⟩
theorem Three.set {w : World} {b : Nat} {x y z : Value} (h : Three w b x y z) (x' y' z' : Value) : Three (((w.setCell ⟨b, 0, none⟩ x').setCell ⟨b, 1, none⟩ y').setCell ⟨b, 2, none⟩ z') b x' y' z' :=
  ⟨setCell_other (setCell_other (setCell_same h.c0) (addr_ne_off (by decide))) (addr_ne_off (by decide)), setCell_other (setCell_same (setCell_other h.c1 (addr_ne_off (by decide)))) (addr_ne_off (by decide)),
    setCell_same (setCell_other (setCell_other h.c2 (addr_ne_off (by decide))) (addr_ne_off (by decide))), by simpa using h.f0, by simpa using h.f1, by simpa using h.f2⟩
theorem Three.same {w w' : World} {b : Nat} {x y z : Value} (h : Three w b x y z) (hs : w'.heap[b]? = w.heap[b]?) : Three w' b x y z :=
  have c : ∀ o, w'.cell? ⟨b, o, none⟩ = w.cell? ⟨b, o, none⟩ := fun o => World.cell?_of_block (a := ⟨b, o, none⟩) hs
  have f : ∀ o, w'.frozen? ⟨b, o, none⟩ = w.frozen? ⟨b, o, none⟩ := fun o => World.frozen?_of_block (a := ⟨b, o, none⟩) hs
  ⟨(c _).trans h.c0, (c _).trans h.c1, (c _).trans h.c2, (f _).trans h.f0, (f _).trans h.f1, (f _).trans h.f2⟩
theorem Three.grown {w w' : World} {b : Nat} {x y z : Value} {o : Obj} {row : Option Nat} (h : Three w b x y z) (hg : (w.alloc o).grownBy w' row) (hr : ∀ r, row = some r → r ≠ b) : Three w' b x y z :=
  have hl : b < w.heap.size := cell_lt h.c0
  h.same ((hg.block b (by simp; omega) (fun e => hr b e.symm rfl)).trans (Below.heap_alloc _ _ _ hl))
theorem Three.lt {w : World} {b : Nat} {x y z : Value} (h : Three w b x y z) : b < w.heap.size := cell_lt h.c0

/-- How many a CPU has. -/
def cntM (M : List Cb) (c : Int) : Nat := M.countP fun x => decide (x.c = c)
theorem cntM_snoc (M : List Cb) (x : Cb) (c : Int) : cntM (M ++ [x]) c = cntM M c + if x.c = c then 1 else 0 := by
  unfold cntM
  rw [List.countP_append, List.countP_cons, List.countP_nil]
  simp
theorem take_snoc3 {M : List Cb} {k : Nat} {x : Cb} (h : M[k]? = some x) : M.take (k + 1) = M.take k ++ [x] := by
  rw [List.take_add_one, h]; rfl
def zcM (M : List Cb) : Nat := M.countP fun x => decide (x.gen = 0)
theorem zcM_snoc (M : List Cb) (x : Cb) : zcM (M ++ [x]) = zcM M + if x.gen = 0 then 1 else 0 := by
  unfold zcM
  rw [List.countP_append, List.countP_cons, List.countP_nil]
  simp
def mxM (M : List Cb) : Int := M.foldl (fun m x => if m < x.gen then x.gen else m) 0
theorem mxM_snoc (M : List Cb) (x : Cb) : mxM (M ++ [x]) = if mxM M < x.gen then x.gen else mxM M := by unfold mxM; rw [List.foldl_append]; rfl

set_option maxHeartbeats 1000000 in
theorem count_any {w : World} {v : Value} {M : List Cb} (h : RowC w v M) (hl : M.length ≤ 1000000) (n last c : Int) :
    Calls Tryz.prog 57 #[.agg #[.int .i64 n, .int .i64 last, v], .int .i64 c] w fun e w' => e = .returned (.int .i64 (cntM M c : Int)) ∧ Ch [] w w' := by
  obtain ⟨a, cap, rfl⟩ := h.form
  have hc1 := (Ch.refl [] w).alloc (.cells #[.int .i64 n, .int .i64 last, .slice a M.length cap] 31)
  have HR := Lib.hid (h.quiet hc1)
  have hb := Three.new w (.int .i64 n) (.int .i64 last) (.slice a M.length cap) 31
  have HC := Lib.hid hc1
  have b2 := hb.c2
  obtain ⟨m, hm⟩ : ∃ m, m = M.length := ⟨_, rfl⟩
  have HM := Lib.hid hm
  rw [← hm] at hl HR b2 HC hb ⊢
  clear h hc1 hm hb
  go_enter Tryz.func57, Tryz.ntmps57
  go_wp2_with fail
  generalize w.alloc (.cells #[.int .i64 n, .int .i64 last, .slice a m cap] 31) = w1 at *
  go_loopw [5, 6] (fun q r wr => ∃ k : Nat, k ≤ m ∧ r = .int .i64 (k : Int) ∧ q = .int .i64 (cntM (M.take k) c : Int) ∧ wr = w1) (fun _ r _ => m - (intOf r).toNat)
  case atStart => exact ⟨0, Nat.zero_le _, rfl, rfl, rfl⟩
  case round =>
    obtain ⟨k, hk, rfl, rfl, rfl⟩ := hrel
    by_cases hkm : k < m
    · obtain ⟨x, hx⟩ : ∃ x, M[k]? = some x := ⟨_, List.getElem?_eq_getElem (by rw [← HM.out]; exact hkm)⟩
      obtain ⟨g, rfl, e0, e1, e2⟩ := HR.out.cells hx
      have hq := cntM_snoc (M.take k) x c
      rw [← take_snoc3 hx] at hq
      have hql : cntM (M.take k) c ≤ k := by
        have h1 : cntM (M.take k) c ≤ (M.take k).length := List.countP_le_length
        rw [List.length_take] at h1
        omega
      obtain ⟨q, hqe⟩ : ∃ q, q = cntM (M.take k) c := ⟨_, rfl⟩
      rw [← hqe] at hq hql ⊢
      have HQ := Lib.hid hq
      have hlt : (k : Int) < (m : Int) := by omega
      have hw1 : IntKind.i64.wrap ((q : Int) + 1) = (q : Int) + 1 := IntWalk.i64_in _ (by omega)
      clear hx e1 e2 hq hqe
      by_cases hxc : x.c = c
      · have HZ := Lib.hid (show cntM (M.take (k + 1)) c = q + 1 by rw [HQ.out, if_pos hxc])
        rw [hxc] at e0
        clear HQ hxc
        go_wp2
        go_roundw
        case rel => exact ⟨k + 1, by omega, by go_num, by rw [HZ.out]; rfl, by trivial⟩
        case measure => simp [intOf]; omega
      · have HZ := Lib.hid (show cntM (M.take (k + 1)) c = q by rw [HQ.out, if_neg hxc, Nat.add_zero])
        have hxb : (x.c == c) = false := beq_false_of_ne hxc
        clear HQ hxc
        go_wp2
        go_roundw
        case rel => exact ⟨k + 1, by omega, by go_num, by rw [HZ.out], by trivial⟩
        case measure => simp [intOf]; omega
    · have hkm' : ¬ (k : Int) < (m : Int) := by omega
      go_wp2
      go_ret
      obtain rfl : k = m := by omega
      rw [List.take_of_length_le (by rw [← HM.out]; exact Nat.le_refl _)]
      exact ⟨rfl, HC.out⟩

set_option maxHeartbeats 2000000 in
theorem ropen_any {w : World} {v : Value} {M : List Cb} (h : RowC w v M) (hl : M.length ≤ 1000000) (n last : Int) :
    Calls Tryz.prog 42 #[.agg #[.int .i64 n, .int .i64 last, v]] w fun e w' => e = .returned (.tuple #[.int .i64 (zcM M : Int), .int .i64 (mxM M)]) ∧ Ch [] w w' := by
  obtain ⟨a, cap, rfl⟩ := h.form
  have hc1 := (Ch.refl [] w).alloc (.cells #[.int .i64 n, .int .i64 last, .slice a M.length cap] 31)
  have HR := Lib.hid (h.quiet hc1)
  have hb := Three.new w (.int .i64 n) (.int .i64 last) (.slice a M.length cap) 31
  have HC := Lib.hid hc1
  have b2 := hb.c2
  obtain ⟨m, hm⟩ : ∃ m, m = M.length := ⟨_, rfl⟩
  have HM := Lib.hid hm
  rw [← hm] at hl HR b2 HC hb ⊢
  clear h hc1 hm hb
  go_enter Tryz.func42, Tryz.ntmps42
  go_wp2_with fail
  generalize w.alloc (.cells #[.int .i64 n, .int .i64 last, .slice a m cap] 31) = w1 at *
  go_loopw [4, 5, 6] (fun q u r wr => ∃ k : Nat, k ≤ m ∧ r = .int .i64 (k : Int) ∧ q = .int .i64 (zcM (M.take k) : Int) ∧ u = .int .i64 (mxM (M.take k)) ∧ wr = w1) (fun _ _ r _ => m - (intOf r).toNat)
  case atStart => exact ⟨0, Nat.zero_le _, rfl, rfl, rfl, rfl⟩
  case round =>
    obtain ⟨k, hk, rfl, rfl, rfl, rfl⟩ := hrel
    by_cases hkm : k < m
    · obtain ⟨x, hx⟩ : ∃ x, M[k]? = some x := ⟨_, List.getElem?_eq_getElem (by rw [← HM.out]; exact hkm)⟩
      obtain ⟨g, rfl, e0, e1, e2⟩ := HR.out.cells hx
      have hq := zcM_snoc (M.take k) x
      have hu := mxM_snoc (M.take k) x
      rw [← take_snoc3 hx] at hq hu
      have hql : zcM (M.take k) ≤ k := by
        have h1 : zcM (M.take k) ≤ (M.take k).length := List.countP_le_length
        rw [List.length_take] at h1
        omega
      obtain ⟨q, hqe⟩ : ∃ q, q = zcM (M.take k) := ⟨_, rfl⟩
      obtain ⟨u, hue⟩ : ∃ u, u = mxM (M.take k) := ⟨_, rfl⟩
      rw [← hqe] at hq hql ⊢
      rw [← hue] at hu ⊢
      have HQ := Lib.hid hq
      have HU := Lib.hid hu
      have hlt : (k : Int) < (m : Int) := by omega
      have hw1 : IntKind.i64.wrap ((q : Int) + 1) = (q : Int) + 1 := IntWalk.i64_in _ (by omega)
      obtain ⟨gx, hgx⟩ : ∃ gx, gx = x.gen := ⟨_, rfl⟩
      rw [← hgx] at HQ HU e2
      clear hx e0 e1 hq hu hqe hue hgx
      by_cases hx0 : gx = 0
      · have HZ := Lib.hid (show zcM (M.take (k + 1)) = q + 1 by rw [HQ.out, if_pos hx0])
        subst hx0
        by_cases hxm : u < 0
        · have HY := Lib.hid (show mxM (M.take (k + 1)) = 0 by rw [HU.out, if_pos hxm])
          have hd : decide ((0 : Int) > u) = true := decide_eq_true hxm
          clear HQ HU
          go_wp2
          go_roundw
          case rel => exact ⟨k + 1, by omega, by go_num, by rw [HZ.out]; rfl, by rw [HY.out], by trivial⟩
          case measure => simp [intOf]; omega
        · have HY := Lib.hid (show mxM (M.take (k + 1)) = u by rw [HU.out, if_neg hxm])
          have hd : decide ((0 : Int) > u) = false := decide_eq_false hxm
          clear HQ HU
          go_wp2
          go_roundw
          case rel => exact ⟨k + 1, by omega, by go_num, by rw [HZ.out]; rfl, by rw [HY.out], by trivial⟩
          case measure => simp [intOf]; omega
      · have HZ := Lib.hid (show zcM (M.take (k + 1)) = q by rw [HQ.out, if_neg hx0, Nat.add_zero])
        have hxb : (gx == 0) = false := beq_false_of_ne hx0
        by_cases hxm : u < gx
        · have HY := Lib.hid (show mxM (M.take (k + 1)) = gx by rw [HU.out, if_pos hxm])
          have hd : decide (gx > u) = true := decide_eq_true hxm
          clear HQ HU
          go_wp2
          go_roundw
          case rel => exact ⟨k + 1, by omega, by go_num, by rw [HZ.out], by rw [HY.out], by trivial⟩
          case measure => simp [intOf]; omega
        · have HY := Lib.hid (show mxM (M.take (k + 1)) = u by rw [HU.out, if_neg hxm])
          have hd : decide (gx > u) = false := decide_eq_false hxm
          clear HQ HU
          go_wp2
          go_roundw
          case rel => exact ⟨k + 1, by omega, by go_num, by rw [HZ.out], by rw [HY.out], by trivial⟩
          case measure => simp [intOf]; omega
    · have hkm' : ¬ (k : Int) < (m : Int) := by omega
      go_wp2
      go_ret2
      obtain rfl : k = m := by omega
      rw [List.take_of_length_le (by rw [← HM.out]; exact Nat.le_refl _)]
      exact ⟨rfl, HC.out⟩
end Go.Proofs.YtjoaigadlpndcaaGreatDoor
namespace Go.Proofs.YtjoaigadlpndcaaGreatDoor
open Go.RowKit Go.Maps

attribute [local go_sem] Oper.semAt_some

theorem infoC : (Tryz.prog.info? 105).map (fun i => (i.zero, i.size, i.bytes)) = some (some (.agg #[.int .i64 0, .int .i64 0, .int .i64 0]), 3, 24) := by kernel_rfl
/-- What the answer adds. -/
def mkC (c : Int) (z : Int) : Cb := ⟨c, z, 0⟩
/-- What is returned, a struct and a number, out of the result's cells. -/
def retC (n last : Int) (v : Value) (q : Value) : Value := .tuple #[.agg #[.int .i64 n, .int .i64 last, v], q]

theorem radd_bad {w : World} {v : Value} {M : List Cb} (h : RowC w v M) (n last c : Int) (hc : c < 0 ∨ n ≤ c) (vz : Value) :
    Calls Tryz.prog 37 #[.agg #[.int .i64 n, .int .i64 last, v], .int .i64 c, vz] w fun e w' =>
      e = .returned (retC n last v (.int .i64 2)) ∧ Ch [] w w' := by
  obtain ⟨a, cap, rfl⟩ := h.form
  have hb := (Three.new w (.int .i64 n) (.int .i64 last) (.slice a M.length cap) 31).ch ((Ch.refl [] _).alloc (.cells #[.int .i64 0, .int .i64 0, .slice none 0 0] 31)) (by simp)
  have hr := Three.new (w.alloc (.cells #[.int .i64 n, .int .i64 last, .slice a M.length cap] 31)) (.int .i64 0) (.int .i64 0) (.slice none 0 0) 31
  have hc1 := ((Ch.refl [] w).alloc (.cells #[.int .i64 n, .int .i64 last, .slice a M.length cap] 31)).alloc (.cells #[.int .i64 0, .int .i64 0, .slice none 0 0] 31)
  rw [World.size_alloc] at hr
  have HR := Lib.hid hr
  have HC := Lib.hid hc1
  generalize M.length = m at *
  rcases Int.lt_or_le c 0 with h0 | h0
  · have hd : decide (c < 0) = true := decide_eq_true h0
    clear h hc hr hc1
    have b0 := hb.c0
    have b1 := hb.c1
    have b2 := hb.c2
    go_enter Tryz.func37, Tryz.ntmps37
    go_wp2_with fail
    have hx := HR.out.set (.int .i64 n) (.int .i64 last) (.slice a m cap)
    have x0 := hx.c0
    have x1 := hx.c1
    have x2 := hx.c2
    refine bodyPost_ret (v := retC n last (.slice a m cap) (.int .i64 2)) ?_ rfl ?_
    · unfold retC; simp [results, Tryz.f37, go_sem]
    · exact ⟨rfl, ((Ch.refl [] w).alloc _).alloc _⟩
  · have hd : decide (c < 0) = false := decide_eq_false (by omega)
    have hd2 : decide (c ≥ n) = true := decide_eq_true (by omega)
    clear h hc hr hc1
    have b0 := hb.c0
    have b1 := hb.c1
    have b2 := hb.c2
    go_enter Tryz.func37, Tryz.ntmps37
    go_wp2_with fail
    have hx := HR.out.set (.int .i64 n) (.int .i64 last) (.slice a m cap)
    have x0 := hx.c0
    have x1 := hx.c1
    have x2 := hx.c2
    refine bodyPost_ret (v := retC n last (.slice a m cap) (.int .i64 2)) ?_ rfl ?_
    · unfold retC; simp [results, Tryz.f37, go_sem]
    · exact ⟨rfl, ((Ch.refl [] w).alloc _).alloc _⟩

/-- A store of a whole struct into a block. -/
theorem set3_ch (W : World) (b : Nat) (x y z : Value) : Ch [b] W (((W.setCell ⟨b, 0, none⟩ x).setCell ⟨b, 1, none⟩ y).setCell ⟨b, 2, none⟩ z) :=
  (((Ch.refl [b] W).setCell (p := ⟨b, 0, none⟩) (by simp) x).setCell (p := ⟨b, 1, none⟩) (by simp) y).setCell (p := ⟨b, 2, none⟩) (by simp) z
theorem row_fin {w wr : World} {B n : Nat} {v : Value} {M : List Cb} (h : wr.ownsRow B 105 3 v n (flat3 M)) {b : Nat} (hb : b < B) (hw : w.heap.size ≤ b) (hc : Ch [] w wr) (x y z : Value) :
    RowC (((wr.setCell ⟨b, 0, none⟩ x).setCell ⟨b, 1, none⟩ y).setCell ⟨b, 2, none⟩ z) v M ∧ (∀ g, v.ownBlock = some g → w.heap.size ≤ g) ∧ Ch [] w (((wr.setCell ⟨b, 0, none⟩ x).setCell ⟨b, 1, none⟩ y).setCell ⟨b, 2, none⟩ z) := by
  have hn : n = M.length := by
    have := h.1
    rw [flat3_len] at this
    omega
  subst hn
  exact ⟨⟨B, own_ch h (set3_ch wr b x y z) (by simp; exact hb)⟩, fun g e => by have := (h.lt g e).1; omega, hc.fresh (set3_ch wr b x y z) (by simp; exact hw)⟩
/-- What Add tells and leaves. -/
def AddR (w : World) (n last : Int) (_ M' : List Cb) (E : Int) (e : Ending) (w' : World) : Prop :=
  ∃ v', e = .returned (retC n last v' (.int .i64 E)) ∧ RowC w' v' M' ∧ (∀ g, v'.ownBlock = some g → w.heap.size ≤ g) ∧ Ch [] w w'
set_option maxRecDepth 100000 in
set_option maxHeartbeats 4000000 in
theorem radd_ok {w : World} {v : Value} {M : List Cb} (h : RowC w v M) (hl : M.length ≤ 100000) {n last : Int} {c : Int} (h0 : 0 ≤ c) (h1 : c < n) {a1 : Option Addr} {cap1 : Nat} {zs : List Int} (hz : IntsAt w a1 zs) (hzl : zs.length ≤ 1000) (hc64 : cntM M c ≤ 64) :
    Calls Tryz.prog 37 #[.agg #[.int .i64 n, .int .i64 last, v], .int .i64 c, .slice a1 zs.length cap1] w
      (AddR w n last M (M ++ (zs.take (64 - cntM M c)).map (mkC c)) (if 64 < cntM M c + zs.length then 3 else 0)) := by
  obtain ⟨a, cap, rfl⟩ := h.form
  obtain ⟨i0, hI, hz0, hz1, hz2⟩ := info_parts infoC
  have hc1 := (Ch.refl [] w).alloc (.cells #[.int .i64 n, .int .i64 last, .slice a M.length cap] 31)
  have hb1 := Three.new w (.int .i64 n) (.int .i64 last) (.slice a M.length cap) 31
  obtain ⟨W1, hW1⟩ : ∃ W, W = w.alloc (.cells #[.int .i64 n, .int .i64 last, .slice a M.length cap] 31) := ⟨_, rfl⟩
  have hs1 : W1.heap.size = w.heap.size + 1 := by rw [hW1]; simp
  rw [← hW1] at hc1 hb1
  have hc2 := hc1.alloc (.cells #[.int .i64 0, .int .i64 0, .slice none 0 0] 31)
  have hb2 := hb1.ch ((Ch.refl [] W1).alloc (.cells #[.int .i64 0, .int .i64 0, .slice none 0 0] 31)) (by simp)
  have hr2 := Three.new W1 (.int .i64 0) (.int .i64 0) (.slice none 0 0) 31
  rw [hs1] at hr2
  have HRow := Lib.hid (h.quiet hc2)
  have HB := Lib.hid hb2
  have HRs := Lib.hid hr2
  have HC := Lib.hid hc2
  have HZ := Lib.hid (hz.ch hc2)
  have HZ0 := Lib.hid hz
  have HOne := Lib.hid (oneCell3 M)
  obtain ⟨m, hm⟩ : ∃ m, m = M.length := ⟨_, rfl⟩
  have HM := Lib.hid hm
  obtain ⟨q, hq⟩ : ∃ q, q = zs.length := ⟨_, rfl⟩
  have HQ := Lib.hid hq
  obtain ⟨t, ht⟩ : ∃ t, t = cntM M c := ⟨_, rfl⟩
  have HT := Lib.hid ht
  rw [← hq] at hzl
  rw [← ht] at hc64
  rw [← hm] at hl HRow HB hb2 hW1
  rw [← hm, ← hq, ← ht]
  obtain ⟨E, hE⟩ : ∃ E : Int, E = if 64 < t + q then 3 else 0 := ⟨_, rfl⟩
  rw [← hE]
  have HE := Lib.hid hE
  obtain ⟨M', hM'⟩ : ∃ M', M' = M ++ (zs.take (64 - t)).map (mkC c) := ⟨_, rfl⟩
  rw [← hM']
  have HM' := Lib.hid hM'
  have b0 := hb2.c0
  have b1 := hb2.c1
  have b2 := hb2.c2
  have d0 : decide (c < 0) = false := decide_eq_false (by omega)
  have d1 : decide (c ≥ n) = false := decide_eq_false (by omega)
  clear h hz hc1 hb1 hc2 hb2 hr2 hm hq ht hE hM'
  go_enter Tryz.func37, Tryz.ntmps37
  obtain ⟨D, hrow⟩ := HRow.out
  rw [← HM.out] at hrow
  have HRw := Lib.hid hrow
  clear hrow
  rw [hW1] at b0 b1 b2 HRw
  go_wp2_with (at_builtin; go_must (refine wpList_append_row rfl _ _ 29 rfl (w.heap.size + 1 + 1) 105 i0 (.agg #[.int .i64 0, .int .i64 0, .int .i64 0]) 3 24 Tryz.underlying29 hI hz0 hz1 hz2 rfl (by decide) (.slice (some ⟨w.heap.size + 1 + 1, 0, none⟩) 0 0) 0 [] rfl ?c0 ?c1 D (.slice a m cap) m (flat3 M) rfl ?c2 HOne.out ?c3 ?c4 ?c5 ?_))
  case c0 =>
    have hlit := World.ownsRow_lit (e := 105) (size := 3) ((w.alloc (.cells #[.int .i64 n, .int .i64 last, .slice a m cap] 31)).alloc (.cells #[.int .i64 0, .int .i64 0, .slice none 0 0] 31)) #[] 0 (show w.heap.size + 1 + 1 ≤ _ by simp) (Nat.zero_le _) rfl
    simpa [World.size_alloc] using hlit
  case c1 => intro e; cases e
  case c2 => exact World.ownsRow.alloc HRw.out _
  case c3 => unfold maxLen; omega
  case c4 => omega
  case c5 => simp
  intro v2 w2 hown2 hgrow2 hne2
  rw [hW1] at HC HRs HB HZ HRow
  obtain ⟨W2, hW2⟩ : ∃ W, W = (w.alloc (.cells #[.int .i64 n, .int .i64 last, .slice a m cap] 31)).alloc (.cells #[.int .i64 0, .int .i64 0, .slice none 0 0] 31) := ⟨_, rfl⟩
  have hs2 : W2.heap.size = w.heap.size + 1 + 1 := by rw [hW2]; simp
  rw [← hW2] at HC HRs HB HZ HRow hgrow2
  have hq2 : Ch [] W2 w2 := ((Ch.refl [] W2).alloc (.cells #[] 105)).kept hgrow2 (fun r e => by simp [Value.ownBlock] at e; omega)
  obtain ⟨g2, cp2, rfl⟩ := own_some hown2 hne2
  have hrow2 : w2.ownsRow (w.heap.size + 1 + 1) 105 3 (.slice (some ⟨g2, 0, none⟩) m cp2) m (flat3 M) := by simpa using hown2
  have HO := Lib.hid hrow2
  have HC2 := Lib.hid (HC.out.trans hq2)
  have hb2 := HB.out.ch hq2 (by simp)
  have HB2 := Lib.hid hb2
  have HRs2 := Lib.hid (HRs.out.ch hq2 (by simp))
  have HZ2 := Lib.hid (HZ.out.ch hq2)
  have HCt := Lib.hid (count_any (HRow.out.quiet hq2) (by rw [← HM.out]; omega) n last c)
  rw [← HT.out] at HCt
  have b0 := hb2.c0
  have b1 := hb2.c1
  have b2 := hb2.c2
  clear hown2 hgrow2 hne2 hrow2 hq2 hb2 HC HRs HB HZ HRow HRw hW2 hW1 hs1 hs2
  go_wp2_with fail
  with_reducible refine HCt.out.mono ?_
  rintro e w3 ⟨rfl, hc3⟩
  have HO3 := Lib.hid (own_ch HO.out hc3 (by simp))
  have HC3 := Lib.hid (HC2.out.trans hc3)
  have HB3 := Lib.hid (HB2.out.ch hc3 (by simp))
  have HRs3 := Lib.hid (HRs2.out.ch hc3 (by simp))
  have HZ3 := Lib.hid (HZ2.out.ch hc3)
  clear hc3 HO HC2 HB2 HRs2 HZ2 HCt b0 b1 b2
  go_frame
  go_wp2_with fail
  go_loopw [10, 9, 8] (fun r u v8 wr => ∃ k : Nat, k ≤ q ∧ t + k ≤ 64 ∧ r = .int .i64 (k : Int) ∧ u = .int .i64 ((t + k : Nat) : Int) ∧ wr.ownsRow (w.heap.size + 1 + 1) 105 3 v8 (m + k) (flat3 (M ++ (zs.take k).map (mkC c))) ∧
      Three wr w.heap.size (.int .i64 n) (.int .i64 last) (.slice a m cap) ∧ Three wr (w.heap.size + 1) (.int .i64 0) (.int .i64 0) (.slice none 0 0) ∧ Ch [] w wr ∧ IntsAt wr a1 zs) (fun r _ _ _ => q - (intOf r).toNat)
  case atStart => exact ⟨0, Nat.zero_le _, by omega, rfl, rfl, by simpa using HO3.out, HB3.out, HRs3.out, HC3.out, HZ3.out⟩
  case round =>
    obtain ⟨k, hk, hk64, rfl, rfl, hrow, hb, hr, hch, hz⟩ := hrel
    obtain ⟨a8, cp8, rfl⟩ := own_form hrow
    have HRow := Lib.hid hrow
    have HB := Lib.hid hb
    have HR := Lib.hid hr
    have HCh := Lib.hid hch
    have HZ := Lib.hid hz
    have hsz := hch.size
    by_cases hkq : k < q
    · have hlt : (k : Int) < (q : Int) := by omega
      by_cases hful : 64 ≤ t + k
      · have e3 : E = 3 := by rw [HE.out, if_pos (by omega)]
        have et : zs.take (64 - t) = zs.take k := by rw [show 64 - t = k by omega]
        have eM : M ++ (zs.take k).map (mkC c) = M' := by rw [HM'.out, et]
        rw [eM] at HRow
        subst e3
        have hd : decide (((t + k : Nat) : Int) ≥ 64) = true := decide_eq_true (by omega)
        have b0 := hb.c0
        have b1 := hb.c1
        have r0 := hr.c0
        have r1 := hr.c1
        have r2 := hr.c2
        have f0 := hr.f0
        have f1 := hr.f1
        have f2 := hr.f2
        clear hrow hb hr hch hz et eM
        go_wp2_with fail
        have hx := HR.out.set (.int .i64 n) (.int .i64 last) (.slice a8 (m + k) cp8)
        have x0 := hx.c0
        have x1 := hx.c1
        have x2 := hx.c2
        refine bodyPost_ret (v := retC n last (.slice a8 (m + k) cp8) (.int .i64 3)) ?_ rfl ?_
        · unfold retC; simp [results, Tryz.f37, go_sem, x0, x1, x2]
        · obtain ⟨k1, k2, k3⟩ := row_fin HRow.out (b := w.heap.size + 1) (by omega) (by omega) HCh.out (.int .i64 n) (.int .i64 last) (.slice a8 (m + k) cp8)
          exact ⟨_, rfl, k1, k2, k3⟩
      · obtain ⟨z, hzk⟩ : ∃ z, z = zs[k]?.getD 0 := ⟨_, rfl⟩
        have hkz : k < zs.length := by rw [← HQ.out]; exact hkq
        obtain ⟨b, off, rfl, hcell⟩ : ∃ b off, a1 = some ⟨b, off, none⟩ ∧ wr.cell? ⟨b, off + k, none⟩ = some (.int .i64 z) := by
          rcases hz with e | ⟨b, off, e, hcs⟩
          · rw [e] at hkz; simp at hkz
          · exact ⟨b, off, e, by rw [hzk]; exact hcs k hkz⟩
        have hd : decide (((t + k : Nat) : Int) ≥ 64) = false := decide_eq_false (by omega)
        have hT := Lib.hid (show flat3 (M ++ (zs.take (k + 1)).map (mkC c)) = flat3 (M ++ (zs.take k).map (mkC c)) ++ [.int .i64 c, .int .i64 z, .int .i64 0] by
          rw [List.take_succ_eq_append_getElem hkz, List.map_append, ← List.append_assoc]
          simp only [List.map_cons, List.map_nil]
          rw [flat3_snoc, hzk, List.getElem?_eq_getElem hkz]
          rfl)
        obtain ⟨F, hF⟩ : ∃ F, F = flat3 (M ++ (zs.take k).map (mkC c)) := ⟨_, rfl⟩
        rw [← hF] at HRow hT
        have hw1 : IntKind.i64.wrap (((t + k : Nat) : Int) + 1) = ((t + (k + 1) : Nat) : Int) := by rw [IntKind.wrap_i64]; omega
        obtain ⟨u, hu⟩ : ∃ u, u = t + k := ⟨_, rfl⟩
        have HU := Lib.hid hu
        rw [← hu] at hw1 hd ⊢
        clear hrow hb hr hch hz hzk hF hu hkz
        go_wp2_with (at_builtin; go_must (refine wpList_append_own _ rfl _ _ 29 rfl (w.heap.size + 1 + 1) 105 i0 (.agg #[.int .i64 0, .int .i64 0, .int .i64 0]) 3 24 Tryz.underlying29 hI hz0 hz1 hz2 rfl (by decide) _ _ _ rfl (HRow.out.alloc _) ⟨wr.heap.size, 0, none⟩ 1 1 [.int .i64 c, .int .i64 z, .int .i64 0] rfl rfl (cells3_new _ _ _ _ _) (by simp [Value.oneCell']) (by unfold maxLen; omega) (by omega) (by have := HR.out.lt; simp; omega) ?_); intro v9 w9 hown9 hgrow9 _)
        have hq9 : Ch [] w w9 := (HCh.out.alloc (.cells #[.int .i64 c, .int .i64 z, .int .i64 0] 105)).kept hgrow9 (fun r e => by have := (HRow.out.lt r e).1; omega)
        have hrb : ∀ r, (Value.slice a8 (m + k) cp8).ownBlock = some r → w.heap.size + 1 + 1 ≤ r := fun r e => (HRow.out.lt r e).1
        have HB9 := Lib.hid (HB.out.grown hgrow9 (fun r e => by have := hrb r e; omega))
        have HR9 := Lib.hid (HR.out.grown hgrow9 (fun r e => by have := hrb r e; omega))
        have HO9 := Lib.hid hown9
        have HC9 := Lib.hid hq9
        clear hown9 hgrow9 hq9 hrb
        go_wp2_with fail
        go_roundw
        case rel =>
          refine ⟨k + 1, by omega, by omega, by go_num, (by first | rw [hw1] | congr 1), ?_, HB9.out, HR9.out, HC9.out, HZ0.out.ch HC9.out⟩
          rw [hT.out]
          simpa [Nat.add_assoc] using HO9.out
        case measure => simp [intOf]; omega
    · have hkm' : ¬ (k : Int) < (q : Int) := by omega
      have e3 : E = 0 := by rw [HE.out, if_neg (by omega)]
      have eM : M ++ (zs.take k).map (mkC c) = M' := by
        rw [HM'.out, List.take_of_length_le (show zs.length ≤ k by rw [← HQ.out]; omega), List.take_of_length_le (show zs.length ≤ 64 - t by rw [← HQ.out]; omega)]
      rw [eM] at HRow
      subst e3
      have b0 := hb.c0
      have b1 := hb.c1
      have r0 := hr.c0
      have r1 := hr.c1
      have r2 := hr.c2
      have f0 := hr.f0
      have f1 := hr.f1
      have f2 := hr.f2
      clear hrow hb hr hch hz eM
      go_wp2_with fail
      have hx := HR.out.set (.int .i64 n) (.int .i64 last) (.slice a8 (m + k) cp8)
      have x0 := hx.c0
      have x1 := hx.c1
      have x2 := hx.c2
      refine bodyPost_ret (v := retC n last (.slice a8 (m + k) cp8) (.int .i64 0)) ?_ rfl ?_
      · unfold retC; simp [results, Tryz.f37, go_sem, x0, x1, x2]
      · obtain ⟨k1, k2, k3⟩ := row_fin HRow.out (b := w.heap.size + 1) (by omega) (by omega) HCh.out (.int .i64 n) (.int .i64 last) (.slice a8 (m + k) cp8)
        exact ⟨_, rfl, k1, k2, k3⟩
end Go.Proofs.YtjoaigadlpndcaaGreatDoor

/-
  The document's answer for layer 11: its list of callbacks in memory; Count, Open.
-/
import Derived.Test.YtnnliimjemmekaaCaK
namespace Go.Proofs.Ytnnliimjemmekaa
open Go.RowKit Go.Maps

attribute [local go_sem] Oper.semAt_some

/-- A callback of the answer's. -/
structure Cb where
  c : Int
  id : Int
  gen : Int
/-- The answer's callbacks, cell by cell. -/
def flat3 (M : List Cb) : List Value := M.flatMap fun x => [.int .i64 x.c, .int .i64 x.id, .int .i64 x.gen]
theorem flat3_len (l : List Cb) : (flat3 l).length = l.length * 3 := by
  induction l with
  | nil => rfl
  | cons a t ih => rw [flat3, List.flatMap_cons, List.length_append, show (t.flatMap fun x => [Value.int .i64 x.c, .int .i64 x.id, .int .i64 x.gen]) = flat3 t from rfl, ih]; simp; omega
theorem flat3_snoc (l : List Cb) (x : Cb) : flat3 (l ++ [x]) = flat3 l ++ [.int .i64 x.c, .int .i64 x.id, .int .i64 x.gen] := by simp [flat3]
theorem flat3_at (l : List Cb) (k : Nat) (x : Cb) (h : l[k]? = some x) : (flat3 l)[k * 3]? = some (.int .i64 x.c) ∧ (flat3 l)[k * 3 + 1]? = some (.int .i64 x.id) ∧ (flat3 l)[k * 3 + 2]? = some (.int .i64 x.gen) := by
  induction l generalizing k with
  | nil => simp at h
  | cons a t ih =>
    rw [flat3, List.flatMap_cons]
    cases k with
    | zero => simp at h; subst h; simp
    | succ k =>
      have := ih k (by simpa using h)
      rw [show (k + 1) * 3 = k * 3 + 3 by omega]
      simpa [flat3] using this
theorem oneCell3 (l : List Cb) : ∀ u ∈ flat3 l, u.oneCell' = true := by
  intro u hu
  simp only [flat3, List.mem_flatMap] at hu
  obtain ⟨x, _, hx⟩ := hu
  simp at hx
  rcases hx with rfl | rfl | rfl <;> rfl
/-- The answer's list, wherever it lies. -/
def RowC (w : World) (v : Value) (M : List Cb) : Prop := ∃ B, w.ownsRow B 49 3 v M.length (flat3 M)
theorem RowC.ch {w w' : World} {S : List Nat} {v : Value} {M : List Cb} (h : RowC w v M) (hc : Ch S w w') (hS : ∀ g, v.ownBlock = some g → g ∉ S) : RowC w' v M := by
  obtain ⟨B, h1, h2⟩ := h
  refine ⟨B, h1, ?_⟩
  rcases h2 with h2 | ⟨g, cap, cur, rfl, hb, hg, r⟩
  · exact .inl h2
  · exact .inr ⟨g, cap, cur, rfl, hb, (hc.block g (Array.getElem?_eq_some_iff.1 hg).1 (hS g rfl)).trans hg, r⟩
theorem RowC.quiet {w w' : World} {v : Value} {M : List Cb} (h : RowC w v M) (hc : Ch [] w w') : RowC w' v M := h.ch hc (by simp)
theorem RowC.form {w : World} {v : Value} {M : List Cb} (h : RowC w v M) : ∃ a cap, v = .slice a M.length cap := by
  obtain ⟨B, h⟩ := h
  exact own_form h
theorem RowC.lt {w : World} {v : Value} {M : List Cb} (h : RowC w v M) {g : Nat} (e : v.ownBlock = some g) : g < w.heap.size := by
  obtain ⟨B, h⟩ := h
  exact (h.lt g e).2
/-- One of its callbacks: the three cells. -/
theorem RowC.cells {w : World} {a : Option Addr} {n cap : Nat} {M : List Cb} (h : RowC w (.slice a n cap) M) {k : Nat} {x : Cb} (hx : M[k]? = some x) :
    ∃ g, a = some ⟨g, 0, none⟩ ∧ w.cell? ⟨g, k * 3, none⟩ = some (.int .i64 x.c) ∧ w.cell? ⟨g, k * 3 + 1, none⟩ = some (.int .i64 x.id) ∧ w.cell? ⟨g, k * 3 + 2, none⟩ = some (.int .i64 x.gen) := by
  obtain ⟨B, h⟩ := h
  have hk : k < M.length := (List.getElem?_eq_some_iff.1 hx).1
  obtain ⟨a', cap', e⟩ := own_form h
  cases e
  obtain ⟨g, rfl, _, _, _, hc⟩ := own_cells h 0 (by omega)
  obtain ⟨e0, e1, e2⟩ := flat3_at M k x hx
  exact ⟨g, rfl, (hc _ (by omega)).trans e0, (hc _ (by omega)).trans e1, (hc _ (by omega)).trans e2⟩

/-- Three cells of a block. -/
structure Three (w : World) (b : Nat) (x y z : Value) : Prop where
  c0 : w.cell? ⟨b, 0, none⟩ = some x
  c1 : w.cell? ⟨b, 1, none⟩ = some y
  c2 : w.cell? ⟨b, 2, none⟩ = some z
  f0 : w.frozen? ⟨b, 0, none⟩ = false
  f1 : w.frozen? ⟨b, 1, none⟩ = false
  f2 : w.frozen? ⟨b, 2, none⟩ = false
theorem Three.new (w : World) (x y z : Value) (t : TypeId) : Three (w.alloc (.cells #[x, y, z] t)) w.heap.size x y z :=
  ⟨by rw [World.cell?_alloc_at _ _ _ _ rfl]; rfl, by rw [World.cell?_alloc_at _ _ _ _ rfl]; rfl, by rw [World.cell?_alloc_at _ _ _ _ rfl]; rfl, World.frozen?_alloc_new w _ _ _, World.frozen?_alloc_new w _ _ _, World.frozen?_alloc_new w _ _ _⟩
theorem Three.ch {S : List Nat} {w w' : World} {b : Nat} {x y z : Value} (h : Three w b x y z) (hc : Ch S w w') (hb : b ∉ S) : Three w' b x y z :=
  have l : b < w.heap.size := cell_lt h.c0
  ⟨(hc.cell (p := ⟨b, 0, none⟩) l hb).trans h.c0, (hc.cell (p := ⟨b, 1, none⟩) l hb).trans h.c1, (hc.cell (p := ⟨b, 2, none⟩) l hb).trans h.c2, (hc.frozen (p := ⟨b, 0, none⟩) l hb).trans h.f0, (hc.frozen (p := ⟨b, 1, none⟩) l hb).trans h.f1, (hc.frozen (p := ⟨b, 2, none⟩) l hb).trans h.f2⟩
theorem Three.set {w : World} {b : Nat} {x y z : Value} (h : Three w b x y z) (x' y' z' : Value) : Three (((w.setCell ⟨b, 0, none⟩ x').setCell ⟨b, 1, none⟩ y').setCell ⟨b, 2, none⟩ z') b x' y' z' :=
  ⟨setCell_other (setCell_other (setCell_same h.c0) (addr_ne_off (by decide))) (addr_ne_off (by decide)), setCell_other (setCell_same (setCell_other h.c1 (addr_ne_off (by decide)))) (addr_ne_off (by decide)),
    setCell_same (setCell_other (setCell_other h.c2 (addr_ne_off (by decide))) (addr_ne_off (by decide))), by simpa using h.f0, by simpa using h.f1, by simpa using h.f2⟩
theorem Three.same {w w' : World} {b : Nat} {x y z : Value} (h : Three w b x y z) (hs : w'.heap[b]? = w.heap[b]?) : Three w' b x y z :=
  have c : ∀ o, w'.cell? ⟨b, o, none⟩ = w.cell? ⟨b, o, none⟩ := fun o => World.cell?_of_block (a := ⟨b, o, none⟩) hs
  have f : ∀ o, w'.frozen? ⟨b, o, none⟩ = w.frozen? ⟨b, o, none⟩ := fun o => World.frozen?_of_block (a := ⟨b, o, none⟩) hs
  ⟨(c _).trans h.c0, (c _).trans h.c1, (c _).trans h.c2, (f _).trans h.f0, (f _).trans h.f1, (f _).trans h.f2⟩
theorem Three.grown {w w' : World} {b : Nat} {x y z : Value} {o : Obj} {row : Option Nat} (h : Three w b x y z) (hg : (w.alloc o).grownBy w' row) (hr : ∀ r, row = some r → r ≠ b) : Three w' b x y z :=
  have hl : b < w.heap.size := cell_lt h.c0
  h.same ((hg.block b (by simp; omega) (fun e => hr b e.symm rfl)).trans (Below.heap_alloc _ _ _ hl))
theorem Three.lt {w : World} {b : Nat} {x y z : Value} (h : Three w b x y z) : b < w.heap.size := cell_lt h.c0

/-- How many a CPU has. -/
def cntM (M : List Cb) (c : Int) : Nat := M.countP fun x => decide (x.c = c)
theorem cntM_snoc (M : List Cb) (x : Cb) (c : Int) : cntM (M ++ [x]) c = cntM M c + if x.c = c then 1 else 0 := by
  unfold cntM
  rw [List.countP_append, List.countP_cons, List.countP_nil]
  simp
theorem take_snoc3 {M : List Cb} {k : Nat} {x : Cb} (h : M[k]? = some x) : M.take (k + 1) = M.take k ++ [x] := by
  rw [List.take_add_one, h]; rfl
def zcM (M : List Cb) : Nat := M.countP fun x => decide (x.gen = 0)
theorem zcM_snoc (M : List Cb) (x : Cb) : zcM (M ++ [x]) = zcM M + if x.gen = 0 then 1 else 0 := by
  unfold zcM
  rw [List.countP_append, List.countP_cons, List.countP_nil]
  simp
def mxM (M : List Cb) : Int := M.foldl (fun m x => if m < x.gen then x.gen else m) 0
theorem mxM_snoc (M : List Cb) (x : Cb) : mxM (M ++ [x]) = if mxM M < x.gen then x.gen else mxM M := by unfold mxM; rw [List.foldl_append]; rfl

set_option maxHeartbeats 1000000 in
theorem count_any {w : World} {v : Value} {M : List Cb} (h : RowC w v M) (hl : M.length ≤ 1000000) (n last c : Int) :
    Calls Try.prog 22 #[.agg #[.int .i64 n, .int .i64 last, v], .int .i64 c] w fun e w' => e = .returned (.int .i64 (cntM M c : Int)) ∧ Ch [] w w' := by
  obtain ⟨a, cap, rfl⟩ := h.form
  have hc1 := (Ch.refl [] w).alloc (.cells #[.int .i64 n, .int .i64 last, .slice a M.length cap] 30)
  have HR := Lib.hid (h.quiet hc1)
  have hb := Three.new w (.int .i64 n) (.int .i64 last) (.slice a M.length cap) 30
  have HC := Lib.hid hc1
  have b2 := hb.c2
  obtain ⟨m, hm⟩ : ∃ m, m = M.length := ⟨_, rfl⟩
  have HM := Lib.hid hm
  rw [← hm] at hl HR b2 HC hb ⊢
  clear h hc1 hm hb
  go_enter Try.func22, Try.ntmps22
  go_wp2_with fail
  generalize w.alloc (.cells #[.int .i64 n, .int .i64 last, .slice a m cap] 30) = w1 at *
  go_loopw [5, 6] (fun q r wr => ∃ k : Nat, k ≤ m ∧ r = .int .i64 (k : Int) ∧ q = .int .i64 (cntM (M.take k) c : Int) ∧ wr = w1) (fun _ r _ => m - (intOf r).toNat)
  case atStart => exact ⟨0, Nat.zero_le _, rfl, rfl, rfl⟩
  case round =>
    obtain ⟨k, hk, rfl, rfl, rfl⟩ := hrel
    by_cases hkm : k < m
    · obtain ⟨x, hx⟩ : ∃ x, M[k]? = some x := ⟨_, List.getElem?_eq_getElem (by rw [← HM.out]; exact hkm)⟩
      obtain ⟨g, rfl, e0, e1, e2⟩ := HR.out.cells hx
      have hq := cntM_snoc (M.take k) x c
      rw [← take_snoc3 hx] at hq
      have hql : cntM (M.take k) c ≤ k := by
        have h1 : cntM (M.take k) c ≤ (M.take k).length := List.countP_le_length
        rw [List.length_take] at h1
        omega
      obtain ⟨q, hqe⟩ : ∃ q, q = cntM (M.take k) c := ⟨_, rfl⟩
      rw [← hqe] at hq hql ⊢
      have HQ := Lib.hid hq
      have hlt : (k : Int) < (m : Int) := by omega
      have hw1 : IntKind.i64.wrap ((q : Int) + 1) = (q : Int) + 1 := IntWalk.i64_in _ (by omega)
      clear hx e1 e2 hq hqe
      by_cases hxc : x.c = c
      · have HZ := Lib.hid (show cntM (M.take (k + 1)) c = q + 1 by rw [HQ.out, if_pos hxc])
        rw [hxc] at e0
        clear HQ hxc
        go_wp2
        go_roundw
        case rel => exact ⟨k + 1, by omega, by go_num, by rw [HZ.out]; rfl, by trivial⟩
        case measure => simp [intOf]; omega
      · have HZ := Lib.hid (show cntM (M.take (k + 1)) c = q by rw [HQ.out, if_neg hxc, Nat.add_zero])
        have hxb : (x.c == c) = false := beq_false_of_ne hxc
        clear HQ hxc
        go_wp2
        go_roundw
        case rel => exact ⟨k + 1, by omega, by go_num, by rw [HZ.out], by trivial⟩
        case measure => simp [intOf]; omega
    · have hkm' : ¬ (k : Int) < (m : Int) := by omega
      go_wp2
      go_ret
      obtain rfl : k = m := by omega
      rw [List.take_of_length_le (by rw [← HM.out]; exact Nat.le_refl _)]
      exact ⟨rfl, HC.out⟩

set_option maxHeartbeats 2000000 in
theorem ropen_any {w : World} {v : Value} {M : List Cb} (h : RowC w v M) (hl : M.length ≤ 1000000) (n last : Int) :
    Calls Try.prog 15 #[.agg #[.int .i64 n, .int .i64 last, v]] w fun e w' => e = .returned (.tuple #[.int .i64 (zcM M : Int), .int .i64 (mxM M)]) ∧ Ch [] w w' := by
  obtain ⟨a, cap, rfl⟩ := h.form
  have hc1 := (Ch.refl [] w).alloc (.cells #[.int .i64 n, .int .i64 last, .slice a M.length cap] 30)
  have HR := Lib.hid (h.quiet hc1)
  have hb := Three.new w (.int .i64 n) (.int .i64 last) (.slice a M.length cap) 30
  have HC := Lib.hid hc1
  have b2 := hb.c2
  obtain ⟨m, hm⟩ : ∃ m, m = M.length := ⟨_, rfl⟩
  have HM := Lib.hid hm
  rw [← hm] at hl HR b2 HC hb ⊢
  clear h hc1 hm hb
  go_enter Try.func15, Try.ntmps15
  go_wp2_with fail
  generalize w.alloc (.cells #[.int .i64 n, .int .i64 last, .slice a m cap] 30) = w1 at *
  go_loopw [4, 5, 6] (fun q u r wr => ∃ k : Nat, k ≤ m ∧ r = .int .i64 (k : Int) ∧ q = .int .i64 (zcM (M.take k) : Int) ∧ u = .int .i64 (mxM (M.take k)) ∧ wr = w1) (fun _ _ r _ => m - (intOf r).toNat)
  case atStart => exact ⟨0, Nat.zero_le _, rfl, rfl, rfl, rfl⟩
  case round =>
    obtain ⟨k, hk, rfl, rfl, rfl, rfl⟩ := hrel
    by_cases hkm : k < m
    · obtain ⟨x, hx⟩ : ∃ x, M[k]? = some x := ⟨_, List.getElem?_eq_getElem (by rw [← HM.out]; exact hkm)⟩
      obtain ⟨g, rfl, e0, e1, e2⟩ := HR.out.cells hx
      have hq := zcM_snoc (M.take k) x
      have hu := mxM_snoc (M.take k) x
      rw [← take_snoc3 hx] at hq hu
      have hql : zcM (M.take k) ≤ k := by
        have h1 : zcM (M.take k) ≤ (M.take k).length := List.countP_le_length
        rw [List.length_take] at h1
        omega
      obtain ⟨q, hqe⟩ : ∃ q, q = zcM (M.take k) := ⟨_, rfl⟩
      obtain ⟨u, hue⟩ : ∃ u, u = mxM (M.take k) := ⟨_, rfl⟩
      rw [← hqe] at hq hql ⊢
      rw [← hue] at hu ⊢
      have HQ := Lib.hid hq
      have HU := Lib.hid hu
      have hlt : (k : Int) < (m : Int) := by omega
      have hw1 : IntKind.i64.wrap ((q : Int) + 1) = (q : Int) + 1 := IntWalk.i64_in _ (by omega)
      obtain ⟨gx, hgx⟩ : ∃ gx, gx = x.gen := ⟨_, rfl⟩
      rw [← hgx] at HQ HU e2
      clear hx e0 e1 hq hu hqe hue hgx
      by_cases hx0 : gx = 0
      · have HZ := Lib.hid (show zcM (M.take (k + 1)) = q + 1 by rw [HQ.out, if_pos hx0])
        subst hx0
        by_cases hxm : u < 0
        · have HY := Lib.hid (show mxM (M.take (k + 1)) = 0 by rw [HU.out, if_pos hxm])
          have hd : decide ((0 : Int) > u) = true := decide_eq_true hxm
          clear HQ HU
          go_wp2
          go_roundw
          case rel => exact ⟨k + 1, by omega, by go_num, by rw [HZ.out]; rfl, by rw [HY.out], by trivial⟩
          case measure => simp [intOf]; omega
        · have HY := Lib.hid (show mxM (M.take (k + 1)) = u by rw [HU.out, if_neg hxm])
          have hd : decide ((0 : Int) > u) = false := decide_eq_false hxm
          clear HQ HU
          go_wp2
          go_roundw
          case rel => exact ⟨k + 1, by omega, by go_num, by rw [HZ.out]; rfl, by rw [HY.out], by trivial⟩
          case measure => simp [intOf]; omega
      · have HZ := Lib.hid (show zcM (M.take (k + 1)) = q by rw [HQ.out, if_neg hx0, Nat.add_zero])
        have hxb : (gx == 0) = false := beq_false_of_ne hx0
        by_cases hxm : u < gx
        · have HY := Lib.hid (show mxM (M.take (k + 1)) = gx by rw [HU.out, if_pos hxm])
          have hd : decide (gx > u) = true := decide_eq_true hxm
          clear HQ HU
          go_wp2
          go_roundw
          case rel => exact ⟨k + 1, by omega, by go_num, by rw [HZ.out], by rw [HY.out], by trivial⟩
          case measure => simp [intOf]; omega
        · have HY := Lib.hid (show mxM (M.take (k + 1)) = u by rw [HU.out, if_neg hxm])
          have hd : decide (gx > u) = false := decide_eq_false hxm
          clear HQ HU
          go_wp2
          go_roundw
          case rel => exact ⟨k + 1, by omega, by go_num, by rw [HZ.out], by rw [HY.out], by trivial⟩
          case measure => simp [intOf]; omega
    · have hkm' : ¬ (k : Int) < (m : Int) := by omega
      go_wp2
      go_ret2
      obtain rfl : k = m := by omega
      rw [List.take_of_length_le (by rw [← HM.out]; exact Nat.le_refl _)]
      exact ⟨rfl, HC.out⟩
end Go.Proofs.Ytnnliimjemmekaa

/-
  Spots that have but their place, in a row.
  slices.DeleteFunc and slices.IndexFunc over spots.
  slices.DeleteFunc over spots, walked.
  first: the least tick, and the slots that are due then.
-/
import Derived.Test.YtnndofeomakpiaaGreatDoorMgF
import Derived.Test.YtnndofeomakpiaaGreatDoorMgB
import Derived.Lib.SliceRun
import Derived.Laws.Rows
namespace Go.Proofs.YtnndofeomakpiaaGreatDoor
open Go.RowKit Go.Maps Go.Sort

/-- A spot that has but its place. -/
def encS (p : Nat × Nat) : List Value := [.int .i64 (p.1 : Int), .int .i64 (p.2 : Int), .int .u64 0, .int .u64 0]
def encSs (K : List (Nat × Nat)) : List Value := K.flatMap encS
theorem encSs_snoc (K : List (Nat × Nat)) (p : Nat × Nat) : encSs (K ++ [p]) = encSs K ++ encS p := by simp [encSs]
theorem encSs_length (K : List (Nat × Nat)) : (encSs K).length = K.length * 4 := by
  induction K with
  | nil => rfl
  | cons p r ih =>
    show (encS p ++ encSs r).length = _
    rw [List.length_append, ih, List.length_cons]
    show 4 + r.length * 4 = _
    omega
theorem spotInfo : ∃ i : TypeInfo, Tryz.prog.info? 40 = some i ∧ i.zero = some (.agg #[.int .i64 0, .int .i64 0, .int .u64 0, .int .u64 0]) ∧ i.size = 4 ∧ i.bytes = 32 := info_parts (by kernel_rfl)
theorem news_four (W : World) (x y z u : Value) (t : TypeId) : ∀ j v, [x, y, z, u][j]? = some v → (W.alloc (.cells #[x, y, z, u] t)).cell? ((⟨W.heap.size, 0, none⟩ : Addr).add j) = some v := by
  intro j v hv
  have h := Four.new W x y z u t
  match j, hv with
  | 0, hv => cases hv; exact h.c0
  | 1, hv => cases hv; exact h.c1
  | 2, hv => cases hv; exact h.c2
  | 3, hv => cases hv; exact h.c3
def ma (M : Nat → Nat) : Array Value := #[.int .u64 ((M 0 : Nat) : Int), .int .u64 ((M 1 : Nat) : Int), .int .u64 ((M 2 : Nat) : Int), .int .u64 ((M 3 : Nat) : Int), .int .u64 ((M 4 : Nat) : Int), .int .u64 ((M 5 : Nat) : Int), .int .u64 ((M 6 : Nat) : Int), .int .u64 ((M 7 : Nat) : Int)]
theorem ma_at (M : Nat → Nat) {n : Nat} (hn : n < 8) : (ma M)[n]? = some (.int .u64 ((M n : Nat) : Int)) := by
  rcases eight hn with e | e | e | e | e | e | e | e <;> subst e <;> rfl

theorem ma_index (M : Nat → Nat) {n : Nat} (hn : n < 8) (W : World) : (Instr.index 101 (.agg (ma M)) (.int .i64 (n : Int))).run Tryz.prog W = .ok (.int .u64 ((M n : Nat) : Int)) W := by
  rcases eight hn with e | e | e | e | e | e | e | e <;> subst e <;> kernel_rfl
end Go.Proofs.YtnndofeomakpiaaGreatDoor
namespace Go.Proofs.YtnndofeomakpiaaGreatDoor
open Go.RowKit Go.Maps Go.Sort

attribute [local go_sem] Oper.semAt_some

/-- Block b's cells, n spots of them as f tells. -/
def RowF (w : World) (b cap n : Nat) (f : Nat → Nat × Nat) : Prop := ∃ cur, w.heap[b]? = some (.cells cur 40 (0, 0)) ∧ cur.size = cap * 4 ∧ ∀ i, i < n → ∀ c, c < 4 → cur[i * 4 + c]? = (encS (f i))[c]?
theorem encS_get (p : Nat × Nat) {c : Nat} (hc : c < 4) : ∃ v, (encS p)[c]? = some v ∧ v.oneCell' = true := by
  match c, hc with
  | 0, _ => exact ⟨_, rfl, rfl⟩
  | 1, _ => exact ⟨_, rfl, rfl⟩
  | 2, _ => exact ⟨_, rfl, rfl⟩
  | 3, _ => exact ⟨_, rfl, rfl⟩
section
variable {w w' : World} {b cap n : Nat} {f : Nat → Nat × Nat}
theorem RowF.cell (h : RowF w b cap n f) {i : Nat} (hi : i < n) (c : Nat) (hc : c < 4) {v : Value} (hv : (encS (f i))[c]? = some v) : w.cell? ⟨b, i * 4 + c, none⟩ = some v ∧ w.frozen? ⟨b, i * 4 + c, none⟩ = false := by
  obtain ⟨cur, h1, _, h3⟩ := h
  refine ⟨?_, by simp [World.frozen?, h1]⟩
  have := h3 i hi c hc
  simp [World.cell?, h1, this, hv]
theorem RowF.lt (h : RowF w b cap n f) : b < w.heap.size := by obtain ⟨cur, h1, _⟩ := h; exact (Array.getElem?_eq_some_iff.1 h1).1
theorem RowF.ch (h : RowF w b cap n f) {T : Nat → Prop} (hc : ChP T w w') (hT : ¬ T b) : RowF w' b cap n f := by
  have := h.lt
  obtain ⟨cur, h1, h2⟩ := h
  exact ⟨cur, (hc.block b this hT).trans h1, h2⟩
theorem RowF.cut (h : RowF w b cap n f) {m : Nat} (hm : m ≤ n) {g : Nat → Nat × Nat} (hg : ∀ i, i < m → g i = f i) : RowF w b cap m g := by
  obtain ⟨cur, h1, h2, h3⟩ := h
  exact ⟨cur, h1, h2, fun i hi c hc => by rw [hg i hi]; exact h3 i (by omega) c hc⟩
theorem RowF.set1 (h : RowF w b cap n f) {k : Nat} (hk : ∀ i, i < n → ∀ c, c < 4 → i * 4 + c ≠ k) (v : Value) : RowF (w.setCell ⟨b, k, none⟩ v) b cap n f := by
  obtain ⟨cur, h1, h2, h3⟩ := h
  refine ⟨_, heap_setCell_same w b k cur _ v h1, by simpa using h2, fun i hi c hc => ?_⟩
  rw [Array.getElem?_setIfInBounds, if_neg (fun e => hk i hi c hc e.symm)]
  exact h3 i hi c hc
theorem RowF.clear : ∀ (vs : List Value) {w : World} {k : Nat} (_ : RowF w b cap n f) (_ : n * 4 ≤ k), RowF (w.setCells b k vs) b cap n f
  | [], _, _, h, _ => h
  | v :: r, w, k, h, hk => by
    rw [World.setCells]
    exact RowF.clear r (h.set1 (fun i hi c hc => by omega) v) (by omega)
theorem RowF.put (h : RowF w b cap n f) (hcap : n ≤ cap) {i : Nat} (hi : i < n) (p : Nat × Nat) : RowF ((((w.setCell ⟨b, i * 4, none⟩ (.int .i64 (p.1 : Int))).setCell ⟨b, i * 4 + 1, none⟩ (.int .i64 (p.2 : Int))).setCell ⟨b, i * 4 + 2, none⟩ (.int .u64 0)).setCell ⟨b, i * 4 + 3, none⟩ (.int .u64 0)) b cap n (fun k => if k = i then p else f k) := by
  obtain ⟨cur, h1, h2, h3⟩ := h
  have hs := heap_setCell_same _ b (i * 4 + 3) _ _ (.int .u64 0) (heap_setCell_same _ b (i * 4 + 2) _ _ (.int .u64 0) (heap_setCell_same _ b (i * 4 + 1) _ _ (.int .i64 (p.2 : Int)) (heap_setCell_same w b (i * 4) cur _ (.int .i64 (p.1 : Int)) h1)))
  refine ⟨_, hs, by simpa using h2, fun k hk c hc => ?_⟩
  simp only [Array.getElem?_setIfInBounds, Array.size_setIfInBounds]
  by_cases e : k = i
  · subst e
    rw [if_pos rfl]
    match c, hc with
    | 0, _ => rw [if_neg (by omega), if_neg (by omega), if_neg (by omega), if_pos (by omega), if_pos (by omega)]; rfl
    | 1, _ => rw [if_neg (by omega), if_neg (by omega), if_pos (by omega), if_pos (by omega)]; rfl
    | 2, _ => rw [if_neg (by omega), if_pos (by omega), if_pos (by omega)]; rfl
    | 3, _ => rw [if_pos (by omega), if_pos (by omega)]; rfl
  · rw [if_neg e, if_neg (by omega), if_neg (by omega), if_neg (by omega), if_neg (by omega)]
    exact h3 k hk c hc
end
theorem encSs_get (K : List (Nat × Nat)) : ∀ (i c : Nat), i < K.length → c < 4 → (encSs K)[i * 4 + c]? = (encS (K[i]?.getD (0, 0)))[c]? := by
  induction K with
  | nil => intro i c hi; simp at hi
  | cons p r ih =>
    intro i c hi hc
    show (encS p ++ encSs r)[i * 4 + c]? = _
    cases i with
    | zero => rw [List.getElem?_append_left (by show 0 * 4 + c < 4; omega)]; simp
    | succ i =>
      rw [List.getElem?_append_right (by show 4 ≤ _; omega), show (i + 1) * 4 + c - (encS p).length = i * 4 + c by show (i + 1) * 4 + c - 4 = _; omega, ih i c (by simpa using hi) hc]
      simp
theorem RowF.of {w : World} {base b cap : Nat} {K : List (Nat × Nat)} (h : w.ownsRow base 40 4 (.slice (some ⟨b, 0, none⟩) K.length cap) K.length (encSs K)) : RowF w b cap K.length (fun i => K[i]?.getD (0, 0)) ∧ K.length ≤ cap ∧ cap ≤ maxLen ∧ base ≤ b := by
  rcases h.2 with ⟨e, _⟩ | ⟨g, cap', cur, e, hb, hg, h1, h2, h3, h4⟩
  · cases e
  · cases e
    refine ⟨⟨cur, hg, h3, fun i hi c hc => ?_⟩, h1, h2, hb⟩
    rw [← encSs_get K i c hi hc, ← h4, List.getElem?_take_of_lt (by omega), Array.getElem?_toList]
theorem RowF.owns {w : World} {base b cap n : Nat} {K : List (Nat × Nat)} {f : Nat → Nat × Nat} (h : RowF w b cap n f) (hn : n = K.length) (hf : ∀ i, i < n → f i = K[i]?.getD (0, 0)) (hcap : n ≤ cap) (hm : cap ≤ maxLen) (hb : base ≤ b) : w.ownsRow base 40 4 (.slice (some ⟨b, 0, none⟩) n cap) n (encSs K) := by
  obtain ⟨cur, h1, h2, h3⟩ := h
  refine ⟨by rw [encSs_length, hn], .inr ⟨b, cap, cur, rfl, hb, h1, hcap, hm, h2, ?_⟩⟩
  have hl := encSs_length K
  apply List.ext_getElem?
  intro j
  by_cases hj : j < n * 4
  · rw [List.getElem?_take_of_lt hj, Array.getElem?_toList, show j = j / 4 * 4 + j % 4 by omega, h3 (j / 4) (by omega) (j % 4) (by omega), encSs_get K (j / 4) (j % 4) (by omega) (by omega), hf _ (by omega)]
  · rw [List.getElem?_take_eq_none (by omega), List.getElem?_eq_none (by omega)]

/-- What is asked of the function: it tells p of each spot; it turns nothing. -/
def Tells (w : World) (B1 B2 : Nat) (p : Nat × Nat → Bool) (ok : Nat → Prop) : Prop :=
  ∀ (W : World) (x : Nat × Nat), ChP ok w W → Calls Tryz.prog 79 #[.agg #[.int .i64 (x.1 : Int), .int .i64 (x.2 : Int), .int .u64 0, .int .u64 0], .pointer (some ⟨B1, 0, none⟩), .pointer (some ⟨B2, 0, none⟩)] W fun e w' => e = .returned (.bool (p x)) ∧ Ch [] W w'
theorem first1_enters : ∀ args w, (callFunc 79 args).run Tryz.prog w = .ok (.enter 79 args) w := enters_of Tryz.func79 (by kernel_rfl) rfl
/-- slices.IndexFunc over spots. -/
theorem index_spots {w : World} {p : Nat × Nat → Bool} {ok : Nat → Prop} {B1 B2 : Nat} (ht : Tells w B1 B2 p ok) {b cap n : Nat} {f : Nat → Nat × Nat} (hr : RowF w b cap n f) (hn : n ≤ 9223372036854775807) :
    Calls Tryz.prog 87 #[.slice (some ⟨b, 0, none⟩) n cap, .func (.func 79) #[] #[.pointer (some ⟨B1, 0, none⟩), .pointer (some ⟨B2, 0, none⟩)]] w fun e w' =>
      Ch [] w w' ∧ ((e = .returned (.int .i64 (-1)) ∧ ∀ i, i < n → p (f i) = false) ∨ ∃ k, k < n ∧ e = .returned (.int .i64 (k : Int)) ∧ p (f k) = true ∧ ∀ i, i < k → p (f i) = false) := by
  have HR := Lib.hid hr
  have HT := Lib.hid ht
  have eg := first1_enters
  clear hr ht
  go_enter Tryz.func87, Tryz.ntmps87
  go_wp2_with fail
  go_loopw [8] (fun i wr => ∃ k : Nat, k ≤ n ∧ i = .int .i64 (k : Int) ∧ Ch [] w wr ∧ ∀ j, j < k → p (f j) = false) (fun i _ => n - (intOf i).toNat)
  case atStart => exact ⟨0, Nat.zero_le _, rfl, Ch.refl _ _, fun j hj => by omega⟩
  case round =>
    obtain ⟨k, hk, rfl, hC, hP⟩ := hrel
    have HC := Lib.hid hC
    have HP := Lib.hid hP
    by_cases hlt : k < n
    · have hrow := HR.out.ch (.quiet hC) (T := fun _ => False) (fun h => h)
      obtain ⟨c0, _⟩ := hrow.cell hlt 0 (by decide) rfl
      obtain ⟨c1, _⟩ := hrow.cell hlt 1 (by decide) rfl
      obtain ⟨c2, _⟩ := hrow.cell hlt 2 (by decide) rfl
      obtain ⟨c3, _⟩ := hrow.cell hlt 3 (by decide) rfl
      rw [Nat.add_zero] at c0
      have HCall := Lib.hid (HT.out wr (f k) (.quiet hC))
      have hb0 : (0 : Int) ≤ (k : Int) := by omega
      have hb1 : (k : Int) < (n : Int) := by omega
      obtain ⟨y, hy⟩ : ∃ y, y = f k := ⟨_, rfl⟩
      rw [← hy] at c0 c1 HCall
      have HY := Lib.hid hy
      have hoff : b = b ∧ k * 4 = k * 4 := ⟨rfl, rfl⟩
      clear hrow hC hP hy hoff
      obtain ⟨y0, y1⟩ := y
      simp only [] at c0 c1 HCall
      cases hq : p (y0, y1)
      · rw [hq] at HCall
        have HQ := Lib.hid (show p (f k) = false by rw [← HY.out]; exact hq)
        clear hq
        go_wp2_with fail
        with_reducible refine HCall.out.mono ?_
        rintro e w1 ⟨rfl, hc1⟩
        have HC1 := Lib.hid (HC.out.trans hc1)
        clear hc1 c0 c1 c2 c3
        go_wp2_with fail
        go_roundw
        case rel => exact ⟨k + 1, by omega, by go_num, HC1.out, fun j hj => by
          by_cases e : j = k
          · rw [e]; exact HQ.out
          · exact HP.out j (by omega)⟩
        case measure => simp [intOf]; omega
      · rw [hq] at HCall
        have HQ := Lib.hid (show p (f k) = true by rw [← HY.out]; exact hq)
        clear hq
        go_wp2_with fail
        with_reducible refine HCall.out.mono ?_
        rintro e w1 ⟨rfl, hc1⟩
        have HC1 := Lib.hid (HC.out.trans hc1)
        clear hc1 c0 c1 c2 c3
        go_wp2
        go_ret
        exact ⟨HC1.out, .inr ⟨k, hlt, rfl, HQ.out, HP.out⟩⟩
    · obtain rfl : k = n := by omega
      go_wp2
      go_ret
      exact ⟨HC.out, .inl ⟨rfl, HP.out⟩⟩

theorem spot_snoc (K : List (Nat × Nat)) {j : Nat} (hj : j < K.length) : K.take (j + 1) = K.take j ++ [K[j]?.getD (0, 0)] := by
  rw [List.take_add_one]
  simp [hj]
/-- Of the first j what is kept lies at the row's head. -/
structure Kept (K : List (Nat × Nat)) (kp : Nat × Nat → Bool) (j i : Nat) (f : Nat → Nat × Nat) : Prop where
  len : ((K.take j).filter kp).length = i
  lt : i < j
  low : ∀ q, q < i → f q = ((K.take j).filter kp)[q]?.getD (0, 0)
  high : ∀ q, i ≤ q → q < K.length → f q = K[q]?.getD (0, 0)
section
variable {K : List (Nat × Nat)} {kp : Nat × Nat → Bool} {j i : Nat} {f : Nat → Nat × Nat}
theorem Kept.start {k : Nat} (hk : k < K.length) (hall : ∀ i, i < k → kp (K[i]?.getD (0, 0)) = true) (hno : kp (K[k]?.getD (0, 0)) = false) : Kept K kp (k + 1) k (fun i => K[i]?.getD (0, 0)) := by
  have e1 : (K.take k).filter kp = K.take k := by
    rw [List.filter_eq_self]
    intro x hx
    obtain ⟨i, hi, e⟩ := List.mem_iff_getElem.1 hx
    have h1 : i < k := by simp at hi; omega
    have h2 := hall i h1
    have h3 : K[i]?.getD (0, 0) = x := by
      rw [← e, List.getElem_take, List.getElem?_eq_getElem (by simp at hi; omega)]
      rfl
    rwa [h3] at h2
  have e2 : (K.take (k + 1)).filter kp = K.take k := by
    rw [spot_snoc K hk, List.filter_append, e1]
    simp [hno]
  refine ⟨by rw [e2]; simp; omega, Nat.lt_succ_self _, fun q hq => ?_, fun q _ _ => rfl⟩
  rw [e2, List.getElem?_take_of_lt hq]
theorem Kept.keep (h : Kept K kp j i f) (hj : j < K.length) {x : Nat × Nat} (hx : x = K[j]?.getD (0, 0)) (hk : kp x = true) : Kept K kp (j + 1) (i + 1) (fun q => if q = i then x else f q) := by
  have hl := h.lt
  have e2 : (K.take (j + 1)).filter kp = (K.take j).filter kp ++ [x] := by
    rw [spot_snoc K hj, List.filter_append, ← hx]
    simp [hk]
  refine ⟨by rw [e2, List.length_append, h.len]; rfl, by omega, fun q hq => ?_, fun q h1 h2 => ?_⟩
  · rw [e2]
    by_cases e : q = i
    · rw [if_pos e, List.getElem?_append_right (by rw [h.len]; omega), h.len, e]
      simp
    · rw [if_neg e, List.getElem?_append_left (by rw [h.len]; omega)]
      exact h.low q (by omega)
  · rw [if_neg (by omega)]
    exact h.high q (by omega) h2
theorem Kept.skip (h : Kept K kp j i f) (hj : j < K.length) {x : Nat × Nat} (hx : x = K[j]?.getD (0, 0)) (hk : kp x = false) : Kept K kp (j + 1) i f := by
  have e2 : (K.take (j + 1)).filter kp = (K.take j).filter kp := by
    rw [spot_snoc K hj, List.filter_append, ← hx]
    simp [hk]
  exact ⟨by rw [e2]; exact h.len, by have := h.lt; omega, fun q hq => by rw [e2]; exact h.low q hq, h.high⟩
end
/-- 'clear' of spots. -/
theorem run_clear_spots (w : World) (b o n c : Nat) (hn : 0 < n) (hc : ∀ j, j < n * 4 → (w.cell? ⟨b, o + j, none⟩).isSome = true) (hf : ∀ j, j < n * 4 → w.frozen? ⟨b, o + j, none⟩ = false) :
    ∃ zs, ∀ ty, (Builtin.clear_ #[125] ty #[.slice (some ⟨b, o, none⟩) n c]).run Tryz.prog w = .ok (.tuple #[]) (w.setCells b o zs) := by
  have hz : ∀ w, (zeroValue 40).run Tryz.prog w = .ok (.agg #[.int .i64 0, .int .i64 0, .int .u64 0, .int .u64 0]) w := Tryz.zeroValue40
  have hl : (Builtin.zeroCells (Value.agg #[.int .i64 0, .int .i64 0, .int .u64 0, .int .u64 0]).cells n).toList.length = n * 4 := by
    simp [Builtin.zeroCells, Value.cells]
  have h1 : ∀ v ∈ (Builtin.zeroCells (Value.agg #[.int .i64 0, .int .i64 0, .int .u64 0, .int .u64 0]).cells n).toList, v.oneCell' = true := by
    intro v hv
    simp only [Builtin.zeroCells, Array.toList_map, List.mem_map] at hv
    obtain ⟨i, _, rfl⟩ := hv
    have : i % 4 < 4 := Nat.mod_lt _ (by decide)
    show (#[Value.int .i64 0, .int .i64 0, .int .u64 0, .int .u64 0][i % 4]!).oneCell' = true
    match i % 4, this with
    | 0, _ => rfl
    | 1, _ => rfl
    | 2, _ => rfl
    | 3, _ => rfl
  refine ⟨(Builtin.zeroCells (Value.agg #[.int .i64 0, .int .i64 0, .int .u64 0, .int .u64 0]).cells n).toList, fun ty => ?_⟩
  have hst := run_storeCells_cells (P := Tryz.prog) b o (Builtin.zeroCells (Value.agg #[.int .i64 0, .int .i64 0, .int .u64 0, .int .u64 0]).cells n).toList 0 w (by rw [hl]; simpa using hc) (by rw [hl]; simpa using hf) h1
  simp only [Nat.add_zero] at hst
  obtain ⟨m, rfl⟩ : ∃ m, n = m + 1 := ⟨n - 1, by omega⟩
  simp [Builtin.clear_, run_underlying Tryz.underlying125, hz, hst]
end Go.Proofs.YtnndofeomakpiaaGreatDoor
namespace Go.Proofs.YtnndofeomakpiaaGreatDoor
open Go.RowKit Go.Maps Go.Sort

attribute [local go_sem] Oper.semAt_some

theorem ch_tells {w w' : World} {B1 B2 : Nat} {p : Nat × Nat → Bool} {ok : Nat → Prop} (h : Tells w B1 B2 p ok) (hc : ChP ok w w') : Tells w' B1 B2 p ok := fun W x h1 => h W x (hc.trans h1)

set_option maxRecDepth 100000 in
set_option maxHeartbeats 4000000 in
theorem strike_spots {w : World} {base b cap : Nat} {K : List (Nat × Nat)} (hown : w.ownsRow base 40 4 (.slice (some ⟨b, 0, none⟩) K.length cap) K.length (encSs K)) {B1 B2 : Nat} {p : Nat × Nat → Bool} (ht : Tells w B1 B2 p (fun k => k = b)) :
    Calls Tryz.prog 78 #[.slice (some ⟨b, 0, none⟩) K.length cap, .func (.func 79) #[] #[.pointer (some ⟨B1, 0, none⟩), .pointer (some ⟨B2, 0, none⟩)]] w fun e w' =>
      e = .returned (.slice (some ⟨b, 0, none⟩) (K.filter fun x => !p x).length cap) ∧ w'.ownsRow base 40 4 (.slice (some ⟨b, 0, none⟩) (K.filter fun x => !p x).length cap) (K.filter fun x => !p x).length (encSs (K.filter fun x => !p x)) ∧ ChP (fun k => k = b) w w' := by
  obtain ⟨hrow, hcap, hmax, hbase⟩ := RowF.of hown
  have HO := Lib.hid hown
  have HR := Lib.hid hrow
  have HT := Lib.hid ht
  have HCap := Lib.hid hcap
  have HMax := Lib.hid hmax
  have HBase := Lib.hid hbase
  have hm : cap ≤ 9223372036854775807 := by unfold maxLen at hmax; omega
  have HI := Lib.hid (index_spots ht hrow (by omega) (cap := cap))
  obtain ⟨n, hn⟩ : ∃ n, n = K.length := ⟨_, rfl⟩
  obtain ⟨kp, hkp⟩ : ∃ kp : Nat × Nat → Bool, kp = fun x => !p x := ⟨_, rfl⟩
  rw [← hkp]
  have HKp := Lib.hid hkp
  obtain ⟨R, hR⟩ : ∃ R, R = K.filter kp := ⟨_, rfl⟩
  rw [← hR]
  have HRr := Lib.hid hR
  rw [← hn] at HR HI HCap HO ⊢
  have HN := Lib.hid hn
  have eg := first1_enters
  have hlt := hrow.lt
  clear hown hrow ht hcap hmax hbase hkp hR hn
  go_enter Tryz.func78, Tryz.ntmps78
  go_wp2_with fail
  with_reducible refine HI.out.mono ?_
  rintro e w1 ⟨hc1, h1⟩
  have HC1 := Lib.hid hc1
  have HR1 := Lib.hid (HR.out.ch (.quiet hc1) (T := fun _ => False) (fun h => h))
  clear hc1
  rcases h1 with ⟨rfl, hall⟩ | ⟨k, hk, rfl, hpk, hall⟩
  · have hRK : R = K := by
      rw [HRr.out, List.filter_eq_self]
      intro x hx
      obtain ⟨i, hi, e⟩ := List.mem_iff_getElem.1 hx
      have h2 := hall i (by rw [HN.out]; exact hi)
      rw [List.getElem?_eq_getElem hi, e] at h2
      rw [HKp.out]
      show (!p x) = true
      rw [show p x = false from h2]
      rfl
    have HOw := Lib.hid (own_chP HO.out (.quiet HC1.out) (S := fun _ => False) (fun _ _ h => h))
    have HRK := Lib.hid hRK
    clear hall hRK
    go_wp2
    go_ret
    rw [HRK.out, ← HN.out]
    exact ⟨rfl, HOw.out, .quiet HC1.out⟩
  · have HKept := Lib.hid (Kept.start (K := K) (kp := kp) (k := k) (by rw [← HN.out]; exact hk) (fun i hi => by rw [HKp.out]; show (!p _) = true; rw [hall i hi]; rfl) (by rw [HKp.out]; show (!p _) = false; rw [hpk]; rfl))
    have hb0 : (0 : Int) ≤ (k : Int) := by omega
    have hb1 : (k : Int) < (n : Int) := by omega
    have hne1 : ¬ (k : Int) = -1 := by omega
    have hnc := HCap.out
    clear hall hpk
    go_wp2_with fail
    go_loopw [5, 6, 7] (fun s5 s6 _ wr => ∃ (i j : Nat) (f : Nat → Nat × Nat), s5 = .int .i64 (i : Int) ∧ s6 = .int .i64 (j : Int) ∧ j ≤ n ∧ Kept K kp j i f ∧ RowF wr b cap n f ∧ ChP (fun k => k = b) w wr) (fun _ s6 _ _ => n - (intOf s6).toNat)
    case atStart => exact ⟨k, k + 1, _, rfl, by go_num, by omega, HKept.out, HR1.out, .quiet HC1.out⟩
    case round =>
      obtain ⟨i, j, f, rfl, rfl, hj, hKe, hRo, hCh⟩ := hrel
      have HKe := Lib.hid hKe
      have HRo := Lib.hid hRo
      have HCh := Lib.hid hCh
      have hij := hKe.lt
      have hlb : b < wr.heap.size := hRo.lt
      by_cases hltj : j < n
      · obtain ⟨y, hy⟩ : ∃ y, y = f j := ⟨_, rfl⟩
        have HY := Lib.hid (show y = K[j]?.getD (0, 0) by rw [hy]; exact hKe.high j (by omega) (by rw [← HN.out]; exact hltj))
        obtain ⟨c0, _⟩ := hRo.cell hltj 0 (by decide) rfl
        obtain ⟨c1, _⟩ := hRo.cell hltj 1 (by decide) rfl
        obtain ⟨c2, _⟩ := hRo.cell hltj 2 (by decide) rfl
        obtain ⟨c3, _⟩ := hRo.cell hltj 3 (by decide) rfl
        rw [Nat.add_zero, ← hy] at c0
        rw [← hy] at c1
        have hj0 : (0 : Int) ≤ (j : Int) := by omega
        have hj1 : (j : Int) < (n : Int) := by omega
        have hi0 : (0 : Int) ≤ (i : Int) := by omega
        have hi1 : (i : Int) < (n : Int) := by omega
        have HCall := Lib.hid (fun W (hW : ChP (fun k => k = b) wr W) => HT.out W y (HCh.out.trans hW))
        have HAl := Lib.hid ((Ch.refl [] wr).alloc (.cells #[.int .i64 (y.1 : Int), .int .i64 (y.2 : Int), .int .u64 0, .int .u64 0] 40))
        have HF := Lib.hid (Four.new wr (.int .i64 (y.1 : Int)) (.int .i64 (y.2 : Int)) (.int .u64 0) (.int .u64 0) 40)
        clear hKe hRo hCh hy hne1 hb0 hb1 hk
        cases hq : p y
        · have HQ := Lib.hid (show kp y = true by rw [HKp.out]; show (!p y) = true; rw [hq]; rfl)
          rw [hq] at HCall
          clear hq
          obtain ⟨y0, y1⟩ := y
          simp only [] at c0 c1 HCall HAl HF
          go_wp2_with fail
          with_reducible refine (HCall.out _ (.quiet HAl.out)).mono ?_
          rintro e w2 ⟨rfl, hc2⟩
          have HC2 := Lib.hid (HAl.out.trans hc2)
          have hf2 := HF.out.ch hc2 (by simp)
          obtain ⟨k0, k1, k2, k3⟩ := hf2
          have HR2 := Lib.hid (HRo.out.ch (.quiet HC2.out) (T := fun _ => False) (fun h => h))
          obtain ⟨d0, e0⟩ := HR2.out.cell (show i < n by omega) 0 (by decide) rfl
          obtain ⟨d1, e1⟩ := HR2.out.cell (show i < n by omega) 1 (by decide) rfl
          obtain ⟨d2, e2⟩ := HR2.out.cell (show i < n by omega) 2 (by decide) rfl
          obtain ⟨d3, e3⟩ := HR2.out.cell (show i < n by omega) 3 (by decide) rfl
          rw [Nat.add_zero] at d0 e0
          clear hc2 c0 c1 c2 c3
          go_frame
          go_wp2_with fail
          go_roundw
          case rel =>
            refine ⟨i + 1, j + 1, _, by go_num, by go_num, by omega, HKe.out.keep (by rw [← HN.out]; exact hltj) HY.out HQ.out, HR2.out.put HCap.out (by omega) (y0, y1), ?_⟩
            exact (HCh.out.trans (.quiet HC2.out)).trans ((((chB _ _ _).trans (chB _ _ _)).trans (chB _ _ _)).trans (chB _ _ _))
          case measure => simp [intOf]; omega
        · have HQ := Lib.hid (show kp y = false by rw [HKp.out]; show (!p y) = false; rw [hq]; rfl)
          rw [hq] at HCall
          clear hq
          obtain ⟨y0, y1⟩ := y
          simp only [] at c0 c1 HCall HAl HF
          go_wp2_with fail
          with_reducible refine (HCall.out _ (.quiet HAl.out)).mono ?_
          rintro e w2 ⟨rfl, hc2⟩
          have HC2 := Lib.hid (HAl.out.trans hc2)
          have HR2 := Lib.hid (HRo.out.ch (.quiet HC2.out) (T := fun _ => False) (fun h => h))
          clear hc2 c0 c1 c2 c3
          go_frame
          go_wp2_with fail
          go_roundw
          case rel => exact ⟨i, j + 1, _, rfl, by go_num, by omega, HKe.out.skip (by rw [← HN.out]; exact hltj) HY.out HQ.out, HR2.out, HCh.out.trans (.quiet HC2.out)⟩
          case measure => simp [intOf]; omega
      · obtain rfl : j = n := by omega
        have HK2 := Lib.hid (show R = (K.take j).filter kp by rw [HRr.out, HN.out, List.take_length])
        obtain ⟨zs, hcl⟩ := run_clear_spots wr b (i * 4) (j - i) (cap - i) (by omega) (fun q hq => by
          obtain ⟨v, hv, _⟩ := encS_get (f (i + q / 4)) (show q % 4 < 4 by omega)
          have := (hRo.cell (show i + q / 4 < j by omega) (q % 4) (by omega) hv).1
          rw [show i * 4 + q = (i + q / 4) * 4 + q % 4 by omega, this]
          rfl) (fun q hq => by
          obtain ⟨v, hv, _⟩ := encS_get (f (i + q / 4)) (show q % 4 < 4 by omega)
          have := (hRo.cell (show i + q / 4 < j by omega) (q % 4) (by omega) hv).2
          rwa [show i * 4 + q = (i + q / 4) * 4 + q % 4 by omega])
        have hi0 : (0 : Int) ≤ (i : Int) := by omega
        clear hKe hRo hCh hne1 hb0 hb1 hk
        go_wp2_with fail
        go_ret
        have hfin := (HRo.out.cut (m := i) (g := f) (by omega) (fun _ _ => rfl)).clear zs (k := i * 4) (Nat.le_refl _)
        have hlen : R.length = i := by rw [HK2.out]; exact HKe.out.len
        rw [hlen]
        refine ⟨rfl, hfin.owns hlen.symm (fun q hq => by rw [HK2.out]; exact HKe.out.low q hq) (by have := HCap.out; omega) HMax.out HBase.out, HCh.out.trans (setCells_chP b zs (i * 4) wr)⟩
end Go.Proofs.YtnndofeomakpiaaGreatDoor
namespace Go.Proofs.YtnndofeomakpiaaGreatDoor
open Go.RowKit Go.Maps Go.Sort

attribute [local go_sem] Oper.semAt_some

theorem timeV_le (x : Int) (n : Nat) (s : Int) : timeV x n s ≤ 18446744073709551615 := by unfold timeV mulV; omega
theorem timeR_ok {x : Int} {n s : Nat} (hn : n < 8) (hs : s < 64) : timeR x (n : Int) (s : Int) = (timeV x n (s : Int), 0) ∧ timeOk (n : Int) (s : Int) := by
  have h : timeOk (n : Int) (s : Int) := by unfold timeOk; omega
  exact ⟨by unfold timeR; rw [if_pos h, Int.toNat_natCast], h⟩
/-- Spots as least looks at them. -/
def zK (K : List (Nat × Nat)) (i : Nat) : Int × Int × Int × Int := (((K[i]?.getD (0, 0)).1 : Int), ((K[i]?.getD (0, 0)).2 : Int), 0, 0)
theorem least_spec (x : Int) {K : List (Nat × Nat)} (hK : ∀ p ∈ K, p.1 < 8 ∧ p.2 < 64) : ∀ n, n ≤ K.length → dB (zK K) n = true ∧ (∀ i, i < n → dL x (zK K) n ≤ timeV x (K[i]?.getD (0, 0)).1 ((K[i]?.getD (0, 0)).2 : Int)) ∧
    ((n = 0 ∧ dL x (zK K) n = 18446744073709551615) ∨ ∃ i, i < n ∧ timeV x (K[i]?.getD (0, 0)).1 ((K[i]?.getD (0, 0)).2 : Int) = dL x (zK K) n) := by
  intro n
  induction n with
  | zero => exact fun _ => ⟨rfl, fun i hi => by omega, .inl ⟨rfl, rfl⟩⟩
  | succ n ih =>
    intro hn
    obtain ⟨h1, h2, h3⟩ := ih (by omega)
    have hp : K[n]?.getD (0, 0) ∈ K := by rw [List.getElem?_eq_getElem (by omega)]; exact List.getElem_mem _
    obtain ⟨k1, k2⟩ := hK _ hp
    obtain ⟨e1, e2⟩ := timeR_ok (x := x) k1 k2
    have hd : dL x (zK K) (n + 1) = if timeV x (K[n]?.getD (0, 0)).1 ((K[n]?.getD (0, 0)).2 : Int) < dL x (zK K) n then timeV x (K[n]?.getD (0, 0)).1 ((K[n]?.getD (0, 0)).2 : Int) else dL x (zK K) n := by
      show (if (timeR x (zK K n).1 (zK K n).2.1).1 < dL x (zK K) n then (timeR x (zK K n).1 (zK K n).2.1).1 else dL x (zK K) n) = _
      rw [show timeR x (zK K n).1 (zK K n).2.1 = _ from e1]
    have hb : dB (zK K) (n + 1) = true := by
      show (dB (zK K) n && decide (timeOk (zK K n).1 (zK K n).2.1)) = true
      rw [h1, decide_eq_true (show timeOk (zK K n).1 (zK K n).2.1 from e2)]
      rfl
    have hle := timeV_le x (K[n]?.getD (0, 0)).1 ((K[n]?.getD (0, 0)).2 : Int)
    refine ⟨hb, fun i hi => ?_, .inr ?_⟩
    · rw [hd]
      by_cases e : i = n
      · subst e
        split <;> omega
      · have := h2 i (by omega)
        split <;> omega
    · rw [hd]
      by_cases hlt : timeV x (K[n]?.getD (0, 0)).1 ((K[n]?.getD (0, 0)).2 : Int) < dL x (zK K) n
      · rw [if_pos hlt]
        exact ⟨n, by omega, rfl⟩
      · rw [if_neg hlt]
        rcases h3 with ⟨_, h3⟩ | ⟨i, hi, h3⟩
        · exact ⟨n, by omega, by omega⟩
        · exact ⟨i, by omega, h3⟩
theorem tells_first {w : World} {x d : Int} (hx : Wd x) {B1 B2 : Nat} (c1 : w.cell? ⟨B1, 0, none⟩ = some (.int .u64 x)) (c2 : w.cell? ⟨B2, 0, none⟩ = some (.int .u64 d)) {ok : Nat → Prop} (h1 : ¬ ok B1) (h2 : ¬ ok B2) :
    Tells w B1 B2 (fun y => !decide ((timeR x (y.1 : Int) (y.2 : Int)).1 = d)) ok := by
  intro W y hW
  have c1 := (hW.cell (p := ⟨B1, 0, none⟩) (cell_lt c1) h1).trans c1
  have c2 := (hW.cell (p := ⟨B2, 0, none⟩) (cell_lt c2) h2).trans c2
  obtain ⟨y0, y1⟩ := y
  simp only []
  have hal := (Ch.refl [] W).alloc (.cells #[.int .i64 (y0 : Int), .int .i64 (y1 : Int), .int .u64 0, .int .u64 0] 40)
  have HAl := Lib.hid hal
  have b1 := (hal.cell (p := ⟨B1, 0, none⟩) (cell_lt c1) (by simp)).trans c1
  have b2 := (hal.cell (p := ⟨B2, 0, none⟩) (cell_lt c2) (by simp)).trans c2
  obtain ⟨k0, k1, k2, k3⟩ := Four.new W (.int .i64 (y0 : Int)) (.int .i64 (y1 : Int)) (.int .u64 0) (.int .u64 0) 40
  have HT := Lib.hid (fun W => time_all hx (y0 : Int) (y1 : Int) W)
  generalize (timeR x (y0 : Int) (y1 : Int)).1 = T at *
  generalize (timeR x (y0 : Int) (y1 : Int)).2 = E at *
  clear hx hW h1 h2 c1 c2 hal k2 k3
  go_enter Tryz.func79, Tryz.ntmps79
  go_wp2_with fail
  with_reducible refine (HT.out _).mono ?_
  rintro e w1 ⟨rfl, rfl⟩
  go_wp2_with fail
  go_ret
  refine ⟨?_, HAl.out⟩
  rw [show (!decide (T = d)) = (T != d) by rw [Bool.eq_iff_iff]; simp]
  rfl
theorem strike_nil (w : World) (B1 B2 : Nat) : Calls Tryz.prog 78 #[.slice none 0 0, .func (.func 79) #[] #[.pointer (some ⟨B1, 0, none⟩), .pointer (some ⟨B2, 0, none⟩)]] w fun e w' => e = .returned (.slice none 0 0) ∧ w' = w := by
  have hI : ∀ W, Calls Tryz.prog 87 #[.slice none 0 0, .func (.func 79) #[] #[.pointer (some ⟨B1, 0, none⟩), .pointer (some ⟨B2, 0, none⟩)]] W fun e w' => e = .returned (.int .i64 (-1)) ∧ w' = W := fun W => by
    go_enter Tryz.func87, Tryz.ntmps87
    go_wp2_with fail
    go_loopw [8] (fun i wr => i = .int .i64 0 ∧ wr = W) (fun _ _ => 0)
    case atStart => exact ⟨rfl, rfl⟩
    case round =>
      obtain ⟨rfl, rfl⟩ := hrel
      go_wp2
      go_ret
      exact ⟨rfl, rfl⟩
  have HI := Lib.hid hI
  clear hI
  go_enter Tryz.func78, Tryz.ntmps78
  go_wp2_with fail
  with_reducible refine (HI.out _).mono ?_
  rintro e w1 ⟨rfl, rfl⟩
  go_wp2
  go_ret
  exact ⟨rfl, rfl⟩
/-- The slots that are due: struck out of all that may be. -/
theorem strike_due {w : World} {base : Nat} {v : Value} {K : List (Nat × Nat)} (hown : w.ownsRow base 40 4 v K.length (encSs K)) (hK : ∀ p ∈ K, p.1 < 8 ∧ p.2 < 64) {x d : Int} (hx : Wd x) {B1 B2 : Nat} (c1 : w.cell? ⟨B1, 0, none⟩ = some (.int .u64 x)) (c2 : w.cell? ⟨B2, 0, none⟩ = some (.int .u64 d))
    (h1 : v.ownBlock ≠ some B1) (h2 : v.ownBlock ≠ some B2) :
    Calls Tryz.prog 78 #[v, .func (.func 79) #[] #[.pointer (some ⟨B1, 0, none⟩), .pointer (some ⟨B2, 0, none⟩)]] w fun e w' => ∃ v', e = .returned v' ∧
      w'.ownsRow base 40 4 v' (keep x d K).length (encSs (keep x d K)) ∧ ChP (fun k => v.ownBlock = some k) w w' := by
  have hkeep : (K.filter fun y => !(!decide ((timeR x (y.1 : Int) (y.2 : Int)).1 = d))) = keep x d K := by
    unfold keep
    apply List.filter_congr
    intro p hp
    obtain ⟨k1, k2⟩ := hK p hp
    rw [(timeR_ok k1 k2).1, Bool.not_not]
  rcases hown.2 with ⟨rfl, h0⟩ | ⟨g, cap, cur, rfl, hr⟩
  · obtain rfl : K = [] := List.length_eq_zero_iff.1 h0
    refine (strike_nil w B1 B2).mono ?_
    rintro e w' ⟨rfl, rfl⟩
    exact ⟨_, rfl, World.ownsRow_nil _ _ _ _, ChP.refl _ _⟩
  · refine (strike_spots hown (tells_first hx c1 c2 (ok := fun k => k = g) (fun e => h1 (by rw [e]; rfl)) (fun e => h2 (by rw [e]; rfl)))).mono ?_
    rintro e w' ⟨rfl, h3, h4⟩
    rw [hkeep] at h3 ⊢
    exact ⟨_, rfl, h3, h4.mono (fun k e => by rw [e]; rfl)⟩
theorem spots_at {w : World} {base : Nat} {a : Option Addr} {cap : Nat} {K : List (Nat × Nat)} (hown : w.ownsRow base 40 4 (.slice a K.length cap) K.length (encSs K)) : SpotsAt w a K.length (zK K) := by
  rcases hown.2 with ⟨_, h0⟩ | ⟨g, cap', cur, e, hr⟩
  · exact ⟨.inl h0⟩
  · cases e
    obtain ⟨hrow, _⟩ := RowF.of hown
    refine ⟨.inr ⟨g, 0, rfl, fun i hi => ?_⟩⟩
    have c0 := (hrow.cell hi 0 (by decide) rfl).1
    have c1 := (hrow.cell hi 1 (by decide) rfl).1
    have c2 := (hrow.cell hi 2 (by decide) rfl).1
    have c3 := (hrow.cell hi 3 (by decide) rfl).1
    simp only [Nat.zero_add]
    exact ⟨c0, c1, c2, c3⟩

set_option maxRecDepth 100000 in
set_option maxHeartbeats 4000000 in
theorem first_any {M : Nat → Nat} (hM : ∀ n, n < 8 → M n < 18446744073709551616) {x : Int} (hx : Wd x) {w : World} (hT : Mk.Tab w) :
    Calls Tryz.prog 71 #[mv M, .int .u64 x] w fun e w' => ∃ v d, e = .returned (.tuple #[.int .u64 d, v]) ∧ w'.ownsRow w.heap.size 40 4 v (keep x d (cands x M 8)).length (encSs (keep x d (cands x M 8))) ∧ Ch [] w w' ∧
      ((cands x M 8 = [] ∧ d = 0) ∨ ((∀ p ∈ cands x M 8, d ≤ timeV x p.1 (p.2 : Int)) ∧ ∃ p ∈ cands x M 8, timeV x p.1 (p.2 : Int) = d)) := by
  have HM := Lib.hid hM
  have HX := Lib.hid hx
  have HE := Lib.hid (Eight.new w M 101)
  obtain ⟨X, hX⟩ : ∃ X : Obj, X = .cells #[.int .u64 ((M 0 : Nat) : Int), .int .u64 ((M 1 : Nat) : Int), .int .u64 ((M 2 : Nat) : Int), .int .u64 ((M 3 : Nat) : Int), .int .u64 ((M 4 : Nat) : Int), .int .u64 ((M 5 : Nat) : Int), .int .u64 ((M 6 : Nat) : Int), .int .u64 ((M 7 : Nat) : Int)] 101 := ⟨_, rfl⟩
  have hg : 0 < w.heap.size := cell_lt (hT 0 (by decide))
  obtain ⟨i0, hi, hz0, hz1, hz2⟩ := spotInfo
  have hW0 : Below w.heap.size w ((w.alloc X).alloc (.cells #[.int .u64 x] 22)) := ((Below.refl _ w).alloc (Nat.le_refl _) _).alloc (by simp) _
  have hx0 : ((w.alloc X).alloc (.cells #[.int .u64 x] 22)).cell? ⟨w.heap.size + 1, 0, none⟩ = some (.int .u64 x) := by
    have := (cell_new (w.alloc X) (.int .u64 x) 22).1
    rwa [World.size_alloc] at this
  have HW0 := Lib.hid (And.intro hW0 (hT.below hW0 hg))
  have hs0 : ((w.alloc X).alloc (.cells #[.int .u64 x] 22)).heap.size = w.heap.size + 2 := by simp
  clear hM hx HE hT hW0
  unfold mv
  go_enter Tryz.func71, Tryz.ntmps71
  go_wp2_with fail
  rw [← hX]
  generalize (w.alloc X).alloc (.cells #[.int .u64 x] 22) = W0 at *
  clear hX
  rw [show (#[.int .u64 ((M 0 : Nat) : Int), .int .u64 ((M 1 : Nat) : Int), .int .u64 ((M 2 : Nat) : Int), .int .u64 ((M 3 : Nat) : Int), .int .u64 ((M 4 : Nat) : Int), .int .u64 ((M 5 : Nat) : Int), .int .u64 ((M 6 : Nat) : Int), .int .u64 ((M 7 : Nat) : Int)] : Array Value) = ma M from rfl]
  go_loopw [6, 15] (fun v i wr => ∃ k : Nat, k ≤ 8 ∧ i = .int .i64 (k : Int) ∧ wr.ownsRow (w.heap.size + 2) 40 4 v (cands x M k).length (encSs (cands x M k)) ∧ Below (w.heap.size + 2) W0 wr) (fun _ i _ => 8 - (intOf i).toNat)
  case atStart => exact ⟨0, Nat.zero_le _, rfl, World.ownsRow_nil _ _ _ _, Below.refl _ _⟩
  case round =>
    obtain ⟨k, hk, rfl, hown, hB⟩ := hrel
    by_cases hlt : k < 8
    · have HB := Lib.hid hB
      have hxr : wr.cell? ⟨w.heap.size + 1, 0, none⟩ = some (.int .u64 x) := (hB.cell (p := ⟨w.heap.size + 1, 0, none⟩) (by show w.heap.size + 1 < _; omega)).trans hx0
      have hTr : Mk.Tab wr := HW0.out.2.below hB (by omega)
      obtain ⟨g, hgg⟩ : ∃ g, g8 k = g := ⟨_, rfl⟩
      have hgl := g8_lo hlt
      rw [hgg] at hgl
      have HGr := Lib.hid (fun W => gran_k hlt W)
      simp only [hgg] at HGr
      obtain ⟨q, hq⟩ : ∃ q, x / g = q := ⟨_, rfl⟩
      have hxl := HX.out.lo
      have hxh := HX.out.hi
      have hq0 : 0 ≤ q := by rw [← hq]; exact Int.ediv_nonneg hxl (by omega)
      have hq1 : q ≤ x := by rw [← hq]; exact Int.ediv_le_self _ hxl
      have hge : (g == 0) = false := by simp; omega
      have hg0 : ¬ g = 0 := by omega
      have hd1 : Int.tdiv x g = q := by rw [Int.tdiv_eq_ediv_of_nonneg hxl]; exact hq
      have hd2 : IntKind.u64.wrap q = q := by rw [IntKind.wrap_u64]; omega
      obtain ⟨a, ha⟩ : ∃ a, (q + 1) % 18446744073709551616 = a := ⟨_, rfl⟩
      have hd4 : IntKind.u64.wrap (q + 1) = a := by rw [IntKind.wrap_u64]; exact ha
      have ha0 : 0 ≤ a := by omega
      have hd6 : Int.tmod a 64 = a % 64 := Int.tmod_eq_emod_of_nonneg ha0
      have hr : (x / g8 k + 1) % 64 = a % 64 := by rw [hgg, hq]; omega
      have HCB := Lib.hid (show candB x M k = Mk.aroundB (M k) (a % 64) by unfold candB; rw [hr])
      have HCV := Lib.hid (show candV x M k = Mk.aroundV (M k) (a % 64) by unfold candV; rw [hr])
      obtain ⟨r, hrr⟩ : ∃ r, a % 64 = r := ⟨_, rfl⟩
      rw [hrr] at hd6 HCB HCV
      have hr0 : 0 ≤ r := by omega
      have hr1 : r < 64 := by omega
      have hd7 : IntKind.u64.wrap r = r := by rw [IntKind.wrap_u64]; omega
      have HAr := Lib.hid (fun W (hW : Mk.Tab W) => Mk.around_any (M k) (HM.out k hlt) r W hW)
      have hma := fun W => ma_index M hlt W
      have hb0 : (0 : Int) ≤ (k : Int) := by omega
      have hb1 : (k : Int) < 8 := by omega
      have HTr := Lib.hid hTr
      clear hgl hgg hq hq0 hq1 hxl hxh ha ha0 hr hrr hB hTr
      go_wp2_with fail
      go_region_held3 (fun w' => w'.cell? ⟨w.heap.size + 1, 0, none⟩ = some (.int .u64 x)) (go_keep) ((go_at_call 64; refine (HGr.out _).mono ?_; rintro e w1 ⟨rfl, rfl⟩))
      have HO1 := Lib.hid (show wr.drew.ownsRow (w.heap.size + 2) 40 4 _ (cands x M k).length (encSs (cands x M k)) from hown)
      have HB1 := Lib.hid (show Below (w.heap.size + 2) W0 wr.drew from HB.out.drew)
      have HT1 : Hid (Mk.Tab wr.drew) := HTr
      clear hown HB HTr hd1 hd2 hd4 hxr hge hg0
      generalize wr.drew = W1 at *
      go_wp2_with fail
      with_reducible refine (HAr.out W1 HT1.out).mono ?_
      rintro e w2 ⟨rfl, hb2⟩
      have hc2 : Ch [] W1 w2 := ⟨hb2.os, hb2.tape, hb2.output, hb2.size, fun j hj _ => hb2.block j hj⟩
      have HO2 := Lib.hid (own_chP HO1.out (.quiet hc2) (S := fun _ => False) (fun _ _ h => h))
      have HB2 := Lib.hid (HB1.out.trans (hb2.mono (Nat.le_trans (by omega) HB1.out.size)))
      have HG2 := Lib.hid (show w.heap.size + 2 ≤ w2.heap.size from Nat.le_trans (by omega) HB2.out.size)
      rw [← HCB.out, ← HCV.out]
      clear hb2 hc2 HO1 HB1 HT1 HAr
      have hkl := cands_le x M k
      cases hcb : candB x M k
      · have HY := Lib.hid hcb
        clear hcb
        go_wp2_with fail
        go_roundw
        case rel => exact ⟨k + 1, by omega, by go_num, by rw [cands_no HY.out]; exact HO2.out, HB2.out⟩
        case measure => simp [intOf]; omega
      · have HY := Lib.hid hcb
        clear hcb
        obtain ⟨cv, hcv⟩ : ∃ cv, cv = candV x M k := ⟨_, rfl⟩
        rw [← hcv]
        have HQ := Lib.hid hcv
        clear hcv
        go_wp2_with (at_builtin; go_must (refine wpList_append_own _ rfl _ _ 125 rfl (w.heap.size + 2) 40 i0 (.agg #[.int .i64 0, .int .i64 0, .int .u64 0, .int .u64 0]) 4 32 Tryz.underlying125 hi hz0 hz1 hz2 rfl (by decide) _ _ _ rfl (HO2.out.alloc _) ⟨w2.heap.size, 0, none⟩ 1 1 [.int .i64 (k : Int), .int .i64 (cv : Int), .int .u64 0, .int .u64 0] rfl rfl (news_four _ _ _ _ _ _) (by simp [Value.oneCell']) (by unfold maxLen; omega) (by omega) (by have := HG2.out; simp; omega) ?_); intro v' w3 hown' hgrow _)
        have HB3 := Lib.hid ((HB2.out.alloc HG2.out _).grown hgrow (by have := HG2.out; simp; omega) (fun k' e => (HO2.out.lt k' e).1))
        have HO3 := Lib.hid hown'
        clear hown' hgrow HO2 HB2
        go_wp2_with fail
        go_roundw
        case rel => exact ⟨k + 1, by omega, by go_num, by rw [cands_yes HY.out, encSs_snoc, List.length_append, ← HQ.out]; exact HO3.out, HB3.out⟩
        case measure => simp [intOf]; omega
    · obtain rfl : k = 8 := by omega
      obtain ⟨a, cp, hv⟩ := own_form hown
      have hK : ∀ p ∈ cands x M 8, p.1 < 8 ∧ p.2 < 64 := fun p hp => by
        obtain ⟨h1, h2, h3⟩ := cands_mem.1 hp
        exact ⟨h1, by rw [h3]; exact cand_lt x M p.1 h2⟩
      have hle := cands_le x M 8
      have HLs := Lib.hid (least_spec x hK _ (Nat.le_refl _))
      obtain ⟨K, hKq⟩ : ∃ K, K = cands x M 8 := ⟨_, rfl⟩
      rw [← hKq] at hown hK hle HLs hv
      have HKq := Lib.hid hKq
      clear hKq
      subst hv
      have hsp := spots_at hown
      have HK := Lib.hid hK
      have HO := Lib.hid hown
      have HB := Lib.hid hB
      have hxr : wr.cell? ⟨w.heap.size + 1, 0, none⟩ = some (.int .u64 x) := (hB.cell (p := ⟨w.heap.size + 1, 0, none⟩) (by show w.heap.size + 1 < _; omega)).trans hx0
      have HXr := Lib.hid hxr
      have HD := Lib.hid (dues_any (cap := cp) HX.out hsp (by omega))
      rw [show dB (zK K) K.length = true from HLs.out.1] at HD
      obtain ⟨n, hn⟩ : ∃ n, n = K.length := ⟨_, rfl⟩
      rw [← hn] at HD HO ⊢
      have HN := Lib.hid hn
      obtain ⟨d, hd⟩ : ∃ d, d = (if (decide (0 < n) && true) = true then dL x (zK K) n else 0) := ⟨_, rfl⟩
      rw [← hd] at HD
      generalize (decide (0 < n) && true) = o at HD
      have HDd := Lib.hid hd
      clear hd hn hsp hown hB hK hle hlt hk
      go_wp2_with fail
      with_reducible refine HD.out.mono ?_
      rintro e w1 ⟨rfl, hc1⟩
      have HB1 := Lib.hid (HB.out.trans (c := w1) ⟨hc1.os, hc1.tape, hc1.output, hc1.size, fun j hj => hc1.block j (Nat.lt_of_lt_of_le hj (Nat.le_trans (by omega) HB.out.size)) (by simp)⟩)
      have hl1 : w.heap.size + 2 ≤ w1.heap.size := Nat.le_trans (by omega) HB1.out.size
      have hcB := hc1.alloc (.cells #[.int .u64 d] 22)
      obtain ⟨W2, hW2⟩ : ∃ W2, W2 = (w1.alloc (.cells #[.int .u64 d] 22)).drew := ⟨_, rfl⟩
      have hd2 : W2.cell? ⟨w1.heap.size, 0, none⟩ = some (.int .u64 d) := by rw [hW2]; exact (cell_new w1 _ _).1
      have hd3 : (w1.alloc (.cells #[.int .u64 d] 22)).drew.cell? ⟨w1.heap.size, 0, none⟩ = some (.int .u64 d) := (cell_new w1 _ _).1
      have hc2 : Ch [] wr W2 := by rw [hW2]; exact hcB.drew
      have hx2 : W2.cell? ⟨w.heap.size + 1, 0, none⟩ = some (.int .u64 x) := (hc2.cell (p := ⟨w.heap.size + 1, 0, none⟩) (cell_lt HXr.out) (by simp)).trans HXr.out
      have HO2 := Lib.hid (own_chP HO.out (.quiet hc2) (S := fun _ => False) (fun _ _ h => h))
      have HB2 := Lib.hid (show Below (w.heap.size + 2) W0 W2 by rw [hW2]; exact (HB1.out.alloc hl1 _).drew)
      have HAt := Lib.hid (fun k (e : (Value.slice a n cp).ownBlock = some k) => show w.heap.size + 2 ≤ k ∧ k ≠ w1.heap.size from by
        have h1 := HO.out.lt k e
        have h2 := hc1.size
        omega)
      have ho2 := HO2.out
      rw [HN.out] at ho2
      have HS := Lib.hid (strike_due ho2 HK.out HX.out (d := d) hx2 hd2 (fun e => by rw [← HN.out] at e; have := (HAt.out _ e).1; omega) (fun e => by rw [← HN.out] at e; exact (HAt.out _ e).2 rfl))
      clear ho2
      rw [← HN.out] at HS
      have HCd := Lib.hid (fun w3 (hc3 : ChP (fun k => (Value.slice a n cp).ownBlock = some k) W2 w3) => (hc3.cell (p := ⟨w1.heap.size, 0, none⟩) (cell_lt hd2) (fun e => (HAt.out _ e).2 rfl)).trans hd2)
      clear hc1 hcB hc2 hx2 hd2 HD
      go_wp2_with fail
      rw [hW2] at HS HCd HB2
      go_region_held3 (fun w' => w'.cell? ⟨w1.heap.size, 0, none⟩ = some (.int .u64 d)) (go_keep) ((go_at_call 78; refine HS.out.mono ?_; rintro e w3 ⟨v', rfl, ho3, hc3⟩; have kd3 := HCd.out w3 hc3; have HO3 := Lib.hid ho3; have HC3 := Lib.hid hc3; clear ho3 hc3))
      go_wp2
      go_ret2
      rw [← HKq.out]
      refine ⟨v', d, rfl, own_mono HO3.out (show w.heap.size ≤ w.heap.size + 2 by omega), ?_, ?_⟩
      · have h1 := (ChP.fresh (S := fun _ => False) (a := w) ⟨HB2.out.os.trans HW0.out.1.os, HB2.out.tape.trans HW0.out.1.tape, HB2.out.output.trans HW0.out.1.output, Nat.le_trans HW0.out.1.size HB2.out.size, fun k hk _ => (HB2.out.block k (by omega)).trans (HW0.out.1.block k hk)⟩ HC3.out (fun k e => .inr (by have := (HAt.out k e).1; omega)))
        exact h1.ch (fun _ h => h)
      · obtain ⟨h1, h2, h3⟩ := HLs.out
        rw [← HN.out] at h2 h3
        have hat : ∀ p ∈ K, ∃ i, i < n ∧ K[i]?.getD (0, 0) = p := fun p hp => by
          obtain ⟨i, hi, e⟩ := List.mem_iff_getElem.1 hp
          exact ⟨i, by rw [HN.out]; exact hi, by rw [List.getElem?_eq_getElem hi, e]; rfl⟩
        by_cases hn0 : n = 0
        · refine .inl ⟨List.length_eq_zero_iff.1 (by rw [← HN.out]; exact hn0), ?_⟩
          rw [HDd.out, hn0]
          rfl
        · have hd : d = dL x (zK K) n := by
            rw [HDd.out, decide_eq_true (show 0 < n by omega)]
            rfl
          refine .inr ⟨fun p hp => ?_, ?_⟩
          · obtain ⟨i, hi, e⟩ := hat p hp
            have := h2 i hi
            rw [e] at this
            rw [hd]
            exact this
          · rcases h3 with ⟨e, _⟩ | ⟨i, hi, e⟩
            · exact absurd e hn0
            · exact ⟨K[i]?.getD (0, 0), by rw [List.getElem?_eq_getElem (by rw [← HN.out]; exact hi)]; exact List.getElem_mem _, by rw [hd]; exact e⟩
end Go.Proofs.YtnndofeomakpiaaGreatDoor

/-
  Timers put one by one, each on the CPU that its number's remainder names.
-/
import Derived.Test.YtnndofeomakpiaaGreatDoorBkK
namespace Go.Proofs.YtnndofeomakpiaaGreatDoor
open Go.RowKit Go.Maps

/-- What is held when k timers were put. -/
structure PutInv (n k : Nat) (now : Int) (f : Nat → Wh) : Prop where
  now' : ∀ c, c < n → (f c).now = now
  puts : ∀ c, c < n → (f c).puts ≤ k
  mem : ∀ c, c < n → ∀ t ∈ (f c).L, ∃ j : Nat, j < k ∧ t.id = (j : Int) ∧ j % n = c
  all : ∀ j, j < k → ∃ t ∈ (f (j % n)).L, t.id = (j : Int)
  sum : lens f n = k
theorem sumC_congr {c d : Nat → Nat} : ∀ k, (∀ i, i < k → c i = d i) → sumC c k = sumC d k
  | 0, _ => rfl
  | k + 1, h => by
    simp only [sumC]
    rw [sumC_congr k (fun i hi => h i (by omega)), h k (by omega)]
theorem sumC_zero : ∀ {c : Nat → Nat} k, (∀ i, i < k → c i = 0) → sumC c k = 0
  | _, 0, _ => rfl
  | c, k + 1, h => by
    simp only [sumC]
    rw [sumC_zero k (fun i hi => h i (by omega)), h k (by omega)]
theorem lens_upd (f : Nat → Wh) {c n : Nat} (hc : c < n) (x : Wh) : lens (updW f c x) n + (f c).L.length = lens f n + x.L.length := by
  unfold lens
  have key : ∀ k, (k ≤ c → sumC (fun i => (updW f c x i).L.length) k = sumC (fun i => (f i).L.length) k) ∧ (c < k → sumC (fun i => (updW f c x i).L.length) k + (f c).L.length = sumC (fun i => (f i).L.length) k + x.L.length) := by
    intro k
    induction k with
    | zero => exact ⟨fun _ => rfl, fun h => by omega⟩
    | succ k ih =>
      refine ⟨fun h => ?_, fun h => ?_⟩
      · simp only [sumC]
        rw [ih.1 (by omega), updW_other f x (by omega)]
      · simp only [sumC]
        by_cases e : k = c
        · subst e
          rw [ih.1 (Nat.le_refl _), updW_same]
          omega
        · have := ih.2 (by omega)
          rw [updW_other f x e]
          omega
  exact (key n).2 hc
theorem PutInv.zero (n : Nat) (Bs : Nat → Nat) (now : Int) : PutInv n 0 now (newW Bs now) :=
  ⟨fun _ _ => rfl, fun _ _ => Nat.le_refl _, fun c _ t ht => (by cases ht), fun j hj => (by omega), sumC_zero n (fun _ _ => rfl)⟩
theorem PutInv.step {n k : Nat} {now : Int} {f : Nat → Wh} (h : PutInv n k now f) (hn : 1 ≤ n) (S' : Nat → Prop) (sp : Sp) (q : Nat) :
    PutInv n (k + 1) now (updW f (k % n) { f (k % n) with S := S', puts := (f (k % n)).puts + 1, L := (f (k % n)).L ++ [⟨(k : Int), sp, q⟩] }) := by
  have hm : k % n < n := Nat.mod_lt _ hn
  refine ⟨fun c hc => ?_, fun c hc => ?_, fun c hc t ht => ?_, fun j hj => ?_, ?_⟩
  · by_cases e : c = k % n
    · subst e; rw [updW_same]; exact h.now' _ hm
    · rw [updW_other f _ e]; exact h.now' c hc
  · by_cases e : c = k % n
    · subst e; rw [updW_same]; have := h.puts _ hm; simp only []; omega
    · rw [updW_other f _ e]; have := h.puts c hc; omega
  · by_cases e : c = k % n
    · subst e
      rw [updW_same] at ht
      rcases List.mem_append.1 ht with ht | ht
      · obtain ⟨j, h1, h2, h3⟩ := h.mem _ hm t ht
        exact ⟨j, by omega, h2, h3⟩
      · obtain rfl : t = ⟨(k : Int), sp, q⟩ := by simpa using ht
        exact ⟨k, by omega, rfl, rfl⟩
    · rw [updW_other f _ e] at ht
      obtain ⟨j, h1, h2, h3⟩ := h.mem c hc t ht
      exact ⟨j, by omega, h2, h3⟩
  · by_cases ej : j = k
    · subst ej
      rw [updW_same]
      exact ⟨_, List.mem_append_right _ (List.mem_singleton.2 rfl), rfl⟩
    · obtain ⟨t, ht, hid⟩ := h.all j (by omega)
      by_cases e : j % n = k % n
      · rw [e] at ht ⊢
        rw [updW_same]
        exact ⟨t, List.mem_append_left _ ht, hid⟩
      · rw [updW_other f _ e]
        exact ⟨t, ht, hid⟩
  · obtain ⟨x, hx⟩ : ∃ x : Wh, x = { f (k % n) with S := S', puts := (f (k % n)).puts + 1, L := (f (k % n)).L ++ [⟨(k : Int), sp, q⟩] } := ⟨_, rfl⟩
    have hl : x.L.length = (f (k % n)).L.length + 1 := by rw [hx]; simp
    rw [← hx]
    have := lens_upd f hm x
    rw [h.sum, hl] at this
    omega
theorem PutInv.no {n k : Nat} {now : Int} {f : Nat → Wh} (h : PutInv n k now f) : ownB f n (k : Int) = false :=
  ownB_false fun c hc t ht e => by
    obtain ⟨j, h1, h2, _⟩ := h.mem c hc t ht
    omega
theorem BoxN.four {W : World} {b : Nat} {x y z t : Value} (h : BoxN W b [x, y, z, t]) :
    W.cell? ⟨b, 0, none⟩ = some x ∧ W.frozen? ⟨b, 0, none⟩ = false ∧ W.cell? ⟨b, 1, none⟩ = some y ∧ W.frozen? ⟨b, 1, none⟩ = false ∧ W.cell? ⟨b, 2, none⟩ = some z ∧ W.frozen? ⟨b, 2, none⟩ = false ∧ W.cell? ⟨b, 3, none⟩ = some t ∧ W.frozen? ⟨b, 3, none⟩ = false :=
  ⟨(h 0 _ rfl).1, (h 0 _ rfl).2, (h 1 _ rfl).1, (h 1 _ rfl).2, (h 2 _ rfl).1, (h 2 _ rfl).2, (h 3 _ rfl).1, (h 3 _ rfl).2⟩
/-- The put of the next one, in whatever world has come of this one by laying blocks: these stay. -/
theorem BL.putNext {w0 w : World} {K n k : Nat} {now : Int} {f : Nat → Wh} (h : BL w0 w K n f) (hi : PutInv n k now f) (hn : 1 ≤ n) (hk : k < 256) {x : Int} (hx : Wd x) (hm : now ≠ 18446744073709551615) (W : World) (hW : Ch [] w W) :
    Calls Tryz.prog 8 #[.pointer (some ⟨K, 0, none⟩), .int .i64 ((k % n : Nat) : Int), .int .i64 (k : Int), .int .u64 x] W fun e w' => e = .returned (.tuple #[spV (placeV now x), .int .i64 0]) ∧
      ∃ g, BL w0 w' K n g ∧ PutInv n (k + 1) now g ∧ (∀ vs, BoxN W w.heap.size vs → BoxN w' w.heap.size vs) ∧ (w.heap.size < W.heap.size → ∀ W2, ChP (fun j => j = w.heap.size) w' W2 → BL w0 W2 K n g) := by
  have hc : k % n < n := Nat.mod_lt _ hn
  have e := hi.now' _ hc
  have hp := hi.puts _ hc
  have hq := h.quiet hW
  obtain ⟨G, cap, hb⟩ := hq.bk
  obtain ⟨G0, cap0, hb0⟩ := h.bk
  have hK := hb0.ltK
  have hGe : G = G0 := by
    have h1 := (hW.cell (p := ⟨K, 0, none⟩) hb0.ltK (by simp)).trans hb0.c
    rw [hb.c] at h1
    cases h1
    rfl
  have hG := hb0.ltG
  refine (bput_ok hb hc (id := (k : Int)) (by omega) (by omega) hi.no hx (by rw [e]; exact hm) (by omega)).mono fun _ w' ⟨he, S', hb', hS', hch⟩ => ⟨by rw [← e]; exact he, _, hq.step hb' hch (fun j hj => ((hb.wh _ hc).lt j hj).1), hi.step hn S' _ _, fun vs hv => hv.chP hch (fun e => by have := (hb0.wh _ hc).hi _ e; omega), fun hlt W2 hc2 => ?_⟩
  have hbl := hq.step hb' hch (fun j hj => ((hb.wh _ hc).lt j hj).1)
  refine hbl.step (hb'.frame hc2 (fun e => by omega) (fun e => by omega) (fun j ⟨i, hin, hj⟩ e => ?_)) hc2 (fun j e => by have := h.bel.size; omega)
  subst e
  by_cases ei : i = k % n
  · subst ei
    rw [updW_same] at hj
    rcases hS' _ hj with h3 | h3
    · have := (hb0.wh _ hc).hi _ h3; omega
    · omega
  · rw [updW_other f _ ei] at hj
    have := (hb0.wh i hin).hi _ hj
    omega

/-! ### All that come out -/
theorem upto_top {L : List Tm} {d : Int} (h : ∀ t ∈ L, t.sp.due ≤ d) : upto L d = L := List.filter_eq_self.2 (fun t ht => by have := h t ht; simpa using this)
theorem outs_nodup {L : List Tm} (h : (L.map (·.id)).Nodup) (d : Int) : (outs L d).Nodup := by
  unfold outs
  exact ((DL_perm (upto L d)).map (·.id)).nodup_iff.2 ((List.Sublist.map _ List.filter_sublist).nodup h)
theorem later_top {L : List Tm} {d : Int} (h : ∀ t ∈ L, t.sp.due ≤ d) : later L d = [] := List.filter_eq_nil_iff.2 (fun t ht => by have := h t ht; simp; omega)
theorem sumC_mono (c : Nat → Nat) {k n : Nat} (h : k ≤ n) : sumC c k ≤ sumC c n := by
  induction n with
  | zero => rw [Nat.le_zero.1 h]; exact Nat.le_refl _
  | succ n ih =>
    by_cases e : k = n + 1
    · rw [e]; exact Nat.le_refl _
    · have := ih (by omega)
      simp only [sumC]
      omega
/-- The wheels, the first k caught up. -/
def cauW (f : Nat → Wh) (x : Int) (k : Nat) : Nat → Wh := fun i => if i < k then { f i with now := max (f i).now x, L := later (f i).L x } else f i
theorem cauW_zero (f : Nat → Wh) (x : Int) : cauW f x 0 = f := by funext i; simp [cauW]
theorem cauW_at (f : Nat → Wh) (x : Int) (k : Nat) : cauW f x k k = f k := by simp [cauW]
theorem cauW_succ (f : Nat → Wh) (x : Int) (k : Nat) : catchW (cauW f x k) k x = cauW f x (k + 1) := by
  funext i
  unfold catchW updW
  by_cases e : i = k
  · subst e
    rw [if_pos rfl, cauW_at]
    unfold cauW
    rw [if_pos (by omega)]
  · rw [if_neg e]
    unfold cauW
    by_cases h : i < k
    · rw [if_pos h, if_pos (by omega)]
    · rw [if_neg h, if_neg (by omega)]
/-- Hundred flags of the law's own. -/
structure BoolsAt (w : World) (X : Nat) (o : Nat → Bool) : Prop where
  at' : ∀ k, k < 100 → w.cell? ⟨X, k, none⟩ = some (.bool (o k))
  fr : ∀ k, w.frozen? ⟨X, k, none⟩ = false
theorem BoolsAt.lt {w : World} {X : Nat} {o : Nat → Bool} (h : BoolsAt w X o) : X < w.heap.size := cell_lt (h.at' 0 (by decide))
theorem BoolsAt.set {w : World} {X : Nat} {o : Nat → Bool} (h : BoolsAt w X o) {k : Nat} (hk : k < 100) (b : Bool) : BoolsAt (w.setCell ⟨X, k, none⟩ (.bool b)) X (fun j => if j = k then b else o j) := by
  refine ⟨fun j hj => ?_, fun j => by simpa using h.fr j⟩
  by_cases e : j = k
  · subst e
    rw [if_pos rfl]
    exact setCell_same (h.at' j hj)
  · rw [if_neg e]
    exact setCell_other (h.at' j hj) (addr_ne_off (fun x => e x.symm))
theorem BoolsAt.chP {T : Nat → Prop} {w w' : World} {X : Nat} {o : Nat → Bool} (h : BoolsAt w X o) (hc : ChP T w w') (hT : ¬ T X) : BoolsAt w' X o :=
  ⟨fun k hk => (hc.cell (p := ⟨X, k, none⟩) h.lt hT).trans (h.at' k hk), fun k => (hc.frozen (p := ⟨X, k, none⟩) h.lt hT).trans (h.fr k)⟩
/-- A bank of the law's own beside a block X that it does not own. -/
structure BX (w0 w : World) (K n : Nat) (f : Nat → Wh) (X : Nat) : Prop where
  bk : ∃ G cap, BK w w0.heap.size K G cap n f ∧ X ≠ K ∧ X ≠ G ∧ ∀ i, i < n → ¬ (f i).S X
  bel : Below w0.heap.size w0 w
  lo : w0.heap.size ≤ X
section
variable {w0 w w' : World} {K n X : Nat} {f : Nat → Wh}
theorem BX.bl (h : BX w0 w K n f X) : BL w0 w K n f := by obtain ⟨G, cap, hb, _⟩ := h.bk; exact ⟨⟨G, cap, hb⟩, h.bel⟩
theorem BL.bx (h : BL w0 w K n f) (o : Obj) : BX w0 (w.alloc o) K n f w.heap.size := by
  obtain ⟨G, cap, hb⟩ := h.bk
  have hc := (Ch.refl [] w).alloc o
  have := hb.ltK
  have := hb.ltG
  exact ⟨⟨G, cap, hb.quiet hc, by omega, by omega, fun i hi e => by have := (hb.wh i hi).hi _ e; omega⟩, (h.quiet hc).bel, h.bel.size⟩
theorem BX.store (h : BX w0 w K n f X) (hc : ChP (fun k => k = X) w w') : BX w0 w' K n f X := by
  obtain ⟨G, cap, hb, h1, h2, h3⟩ := h.bk
  exact ⟨⟨G, cap, hb.frame hc (fun e => h1 e.symm) (fun e => h2 e.symm) (fun k ⟨i, hi, hk⟩ e => by subst e; exact h3 i hi hk), h1, h2, h3⟩, h.bel.trans (hc.below _ (fun k e => by rw [e]; exact h.lo) h.bel.size), h.lo⟩
theorem BX.catch (h : BX w0 w K n f X) (hT : Mk.Tab w0) {c : Nat} (hc : c < n) {x : Int} (hx : Wd x) :
    Calls Tryz.prog 14 #[.pointer (some ⟨K, 0, none⟩), .int .i64 (c : Int), .int .u64 x] w fun e w' => ∃ v, e = .returned v ∧ w'.ownsRow w.heap.size 3 1 v (outs (f c).L x).length ((outs (f c).L x).map iv) ∧
      BX w0 w' K n (catchW f c x) X ∧ ChP (fun k => k ≠ X) w w' := by
  obtain ⟨G, cap, hb, h1, h2, h3⟩ := h.bk
  exact (catch_in hb (h.bl.tab hT) hc hx).mono fun _ _ ⟨v, he, hr, hb', hch⟩ => ⟨v, he, hr, ⟨⟨G, cap, hb', h1, h2, fun i hi => by
    unfold catchW
    by_cases e : i = c
    · subst e; rw [updW_same]; exact h3 _ hi
    · rw [updW_other f _ e]; exact h3 i hi⟩, h.bel.trans (hch.below _ (fun k hk => ((hb.wh c hc).lt k hk).1) h.bel.size), h.lo⟩, hch.mono fun k hk e => by subst e; exact h3 c hc hk⟩
end

/-! ### One CPU caught up -/
/-- Put one by one, at whatever tick: at the last one nothing is held. -/
def PW (n k : Nat) (now : Int) (f : Nat → Wh) : Prop := (now ≠ 18446744073709551615 ∧ PutInv n k now f) ∨ (now = 18446744073709551615 ∧ ∀ c, c < n → (f c).now = now ∧ (f c).L = [])
theorem PW.now' {n k : Nat} {now : Int} {f : Nat → Wh} (h : PW n k now f) {c : Nat} (hc : c < n) : (f c).now = now := by
  rcases h with ⟨_, h⟩ | ⟨_, h⟩
  · exact h.now' c hc
  · exact (h c hc).1
theorem PW.mem {n k : Nat} {now : Int} {f : Nat → Wh} (h : PW n k now f) {c : Nat} (hc : c < n) {t : Tm} (ht : t ∈ (f c).L) : ∃ j : Nat, j < k ∧ t.id = (j : Int) ∧ j % n = c := by
  rcases h with ⟨_, h⟩ | ⟨_, h⟩
  · exact h.mem c hc t ht
  · rw [(h c hc).2] at ht; cases ht
/-- A put at the last tick: nothing is held then. -/
theorem BL.putLast {w0 w : World} {K n k : Nat} {f : Nat → Wh} (h : BL w0 w K n f) (hi : ∀ c, c < n → (f c).now = 18446744073709551615 ∧ (f c).L = []) (hn : 1 ≤ n) (hk : k < 256) (x : Int) (W : World) (hW : Ch [] w W) :
    Calls Tryz.prog 8 #[.pointer (some ⟨K, 0, none⟩), .int .i64 ((k % n : Nat) : Int), .int .i64 (k : Int), .int .u64 x] W fun e w' => e = .returned (.tuple #[spz, .int .i64 12]) ∧
      ∃ g, BL w0 w' K n g ∧ (∀ c, c < n → (g c).now = 18446744073709551615 ∧ (g c).L = []) ∧ (∀ vs, BoxN W w.heap.size vs → BoxN w' w.heap.size vs) ∧ (w.heap.size < W.heap.size → ∀ W2, ChP (fun j => j = w.heap.size) w' W2 → BL w0 W2 K n g) := by
  have hc : k % n < n := Nat.mod_lt _ hn
  have hq := h.quiet hW
  obtain ⟨G, cap, hb⟩ := hq.bk
  refine (bput_max hb hc (id := (k : Int)) (by omega) (by omega) (ownB_false fun i hi' t ht => by rw [(hi i hi').2] at ht; cases ht) x (hi _ hc).1).mono fun _ w' ⟨he, hch⟩ => ⟨he, f, hq.quiet hch, hi, fun vs hv => hv.quiet hch, fun _ W2 hc2 => ?_⟩
  have h2 : Ch [] w W2 := ((ChP.quiet (S := fun _ => False) (hW.trans hch)).fresh hc2 (fun j e => .inr (by omega))).ch (fun _ => id)
  exact h.quiet h2
/-- The late CPUs as a mask. -/
def lateN (f : Nat → Wh) (n : Nat) (d : Int) : Nat := Mk.withN 0 ((selC n fun i => lateB (f i).L d).map fun (i : Nat) => (i : Int))
theorem lateN_lt (f : Nat → Wh) (n : Nat) (d : Int) : lateN f n d < 18446744073709551616 := Mk.withN_lt 0 _ (by decide)
theorem lateN_test (f : Nat → Wh) {n : Nat} (d : Int) {i : Nat} (hi : i < 64) : (lateN f n d).testBit i = (decide (i < n) && lateB (f i).L d) := by
  unfold lateN
  rw [withN_test _ i hi, Nat.zero_testBit, Bool.false_or]
  by_cases h : i ∈ selC n (fun i => lateB (f i).L d)
  · have h2 := mem_selC.1 h
    rw [decide_eq_true h2.1, h2.2, decide_eq_true (List.mem_map.2 ⟨i, h, rfl⟩)]
    rfl
  · rw [decide_eq_false (fun e => by
      obtain ⟨j, hj, e2⟩ := List.mem_map.1 e
      have : j = i := by omega
      exact h (this ▸ hj))]
    cases hb : lateB (f i).L d with
    | false => simp
    | true =>
      have : ¬ i < n := fun e => h (mem_selC.2 ⟨e, hb⟩)
      simp [this]
theorem lateN_has (f : Nat → Wh) {n : Nat} (hn : n ≤ 64) (d : Int) {c : Nat} (hc : c < n) : Mk.hasb (lateN f n d) (c : Int) = lateB (f c).L d := by
  unfold Mk.hasb
  rw [decide_eq_true (by omega), Bool.true_and, Int.toNat_natCast, lateN_test f d (by omega), decide_eq_true hc, Bool.true_and]
theorem late_later (L : List Tm) (d : Int) : lateB (later L d) d = false := by
  cases h : lateB (later L d) d with
  | false => rfl
  | true =>
    obtain ⟨t, ht, h2⟩ := lateB_iff.1 h
    have := (later_mem.1 ht).2
    omega
theorem comp_test (x : Nat) (hx : x < 18446744073709551616) {i : Nat} (hi : i < 64) : (18446744073709551615 - x).testBit i = !x.testBit i := by
  have h := Nat.testBit_two_pow_sub_succ (n := 64) (x := x) (by omega) i
  rw [show 2 ^ 64 - (x + 1) = 18446744073709551615 - x by omega, decide_eq_true hi, Bool.true_and] at h
  exact h
/-- One CPU that is caught up is late no more; all others are as late as they were. -/
theorem lateN_catch (f : Nat → Wh) {n : Nat} {c : Nat} (hc : c < n) (d : Int) : lateN (catchW f c d) n d = Mk.withoutN (lateN f n d) [(c : Int)] := by
  have hw1 : Mk.withN 0 [(c : Int)] < 18446744073709551616 := Mk.withN_lt 0 _ (by decide)
  apply Nat.eq_of_testBit_eq
  intro i
  by_cases hi : i < 64
  · unfold Mk.withoutN
    rw [Nat.testBit_and, comp_test _ hw1 hi, withN_test _ i hi, Nat.zero_testBit, Bool.false_or, lateN_test _ d hi, lateN_test _ d hi]
    by_cases e : i = c
    · subst e
      unfold catchW
      rw [updW_same, late_later]
      simp
    · have e2 : ¬ (i : Int) = (c : Int) := by omega
      unfold catchW
      rw [updW_other f _ e]
      simp [e2]
  · have big : ∀ x : Nat, x < 18446744073709551616 → x.testBit i = false := fun x hx => Nat.testBit_lt_two_pow (Nat.lt_of_lt_of_le hx (by
      have : (18446744073709551616 : Nat) = 2 ^ 64 := by decide
      rw [this]
      exact Nat.pow_le_pow_right (by decide) (by omega)))
    rw [big _ (lateN_lt _ _ _), big _ (Mk.withoutN_lt _ _ (lateN_lt _ _ _))]
/-- What Find tells of a timer behind one CPU's catching up. -/
theorem find_after {w0 w : World} {K n k : Nat} {now : Int} {f : Nat → Wh} {c : Nat} {d : Int} (h : BL w0 w K n (catchW f c d)) (hi : PutInv n k now f) (hc : c < n) (hn : 1 ≤ n) {j : Nat} (hj : j < k) :
    (j % n ≠ c ∧ ownB (catchW f c d) n (j : Int) = true ∧ ownC (catchW f c d) n (j : Int) = j % n) ∨ (j % n = c ∧ ownB (catchW f c d) n (j : Int) = false) ∨ (j % n = c ∧ ownB (catchW f c d) n (j : Int) = true ∧ ownC (catchW f c d) n (j : Int) = c ∧ d < (ownS (catchW f c d) n (j : Int)).due) := by
  have hm : j % n < n := Nat.mod_lt _ hn
  by_cases e : j % n = c
  · cases ho : ownO (catchW f c d) n (j : Int) with
    | none => exact .inr (.inl ⟨e, by unfold ownB; rw [ho]; rfl⟩)
    | some b =>
      obtain ⟨hb, t, ht, hid⟩ := ownO_some ho
      have hbc : b = c := by
        have hmem : t ∈ (f b).L := by
          unfold catchW at ht
          by_cases e2 : b = c
          · subst e2; rw [updW_same] at ht; exact (later_mem.1 ht).1
          · rw [updW_other f _ e2] at ht; exact ht
        obtain ⟨j', _, h2, h3⟩ := hi.mem b hb t hmem
        have : j' = j := by omega
        rw [← h3, this, e]
      subst hbc
      refine .inr (.inr ⟨e, by unfold ownB; rw [ho]; rfl, by unfold ownC; rw [ho], ?_⟩)
      unfold ownS
      rw [ho]
      have hL : (catchW f b d b).L = later (f b).L d := by unfold catchW; rw [updW_same]
      simp only [hL]
      rw [hL] at ht
      have hnd := (h.wi hb).nd
      rw [hL] at hnd
      unfold findS
      rw [← hid, find_in hnd ht]
      exact (later_mem.1 ht).2
  · left
    obtain ⟨t, ht, hid⟩ := hi.all j hj
    have hL : t ∈ (catchW f c d (j % n)).L := by unfold catchW; rw [updW_other f _ e]; exact ht
    have ho := h.owned hm hL
    rw [hid] at ho
    exact ⟨e, by unfold ownB; rw [ho]; rfl, by unfold ownC; rw [ho]⟩
end Go.Proofs.YtnndofeomakpiaaGreatDoor

/-
  What one number of each wheel comes to in all: sum; Len, Del.
-/
import Derived.Stop.RegionWithIn
import Derived.Test.YtnndofeomakpiaaGreatDoorBkD
namespace Go.Proofs.YtnndofeomakpiaaGreatDoor
open Go.RowKit Go.Maps Go.Shelf

attribute [local go_sem] Oper.semAt_some

/-- The sum of the first. -/
def sumC (c : Nat → Nat) : Nat → Nat
  | 0 => 0
  | k + 1 => sumC c k + c k
theorem sumC_le {c : Nat → Nat} {b n : Nat} (h : ∀ i, i < n → c i ≤ b) : ∀ k, k ≤ n → sumC c k ≤ k * b
  | 0, _ => by simp [sumC]
  | k + 1, hk => by
    have h1 := sumC_le h k (by omega)
    have h2 := h k (by omega)
    simp only [sumC, Nat.succ_mul]
    omega
theorem range_snoc {l : List Nat} {x n : Nat} (h : l ++ [x] <+: List.range n) : x = l.length := by
  obtain ⟨r, h⟩ := h
  have h1 : (l ++ [x] ++ r)[l.length]? = some x := by simp
  rw [h] at h1
  have h2 := (List.getElem?_eq_some_iff.1 h1)
  obtain ⟨h3, h4⟩ := h2
  simpa using h4.symm

theorem sum_end {T : Nat → Prop} {w W w' : World} {B1 B2 bx s k : Nat} {v1 v2 vx v : Value} {t : TypeId} {H : Nat → World → Prop} (hq : GQ T w B1 B2 bx v1 v2 vx W) (hb : Boxed W (w.heap.size + 1) t v) (hc : ChP T W.drew w') (hT : ∀ k, T k → k < w.heap.size)
    (hHq : ∀ k W W' (U : Nat → Prop), H k W → ChP U W W' → (∀ j, U j → w.heap.size ≤ j) → H k W') (hh : H k w') (u : Value) (hs : s = w.heap.size + 1 := by rfl) (h1 : B1 = w.heap.size + 1 + 1 := by rfl) (h2 : B2 = w.heap.size + 1 + 1 + 1 := by rfl) (h3 : bx = w.heap.size := by rfl) :
    ChP (fun j => T j ∨ j = w.heap.size + 1) W (w'.setCell ⟨s, 0, none⟩ u) ∧ (GQ T w B1 B2 bx v1 v2 vx W → GQ T w B1 B2 bx v1 v2 vx (w'.setCell ⟨s, 0, none⟩ u)) ∧ GQ T w B1 B2 bx v1 v2 vx (w'.setCell ⟨s, 0, none⟩ u) ∧ Boxed (w'.setCell ⟨s, 0, none⟩ u) (w.heap.size + 1) t u ∧ H k (w'.setCell ⟨s, 0, none⟩ u) := by
  subst hs h1 h2 h3
  have hc' : ChP T W w' := ⟨hc.os, hc.tape, hc.output, hc.size, hc.block⟩
  have k1 : ChP (fun j => T j ∨ j = w.heap.size + 1) W (w'.setCell ⟨w.heap.size + 1, 0, none⟩ u) := ChP.setCell (hc'.mono fun _ e => .inl e) (p := ⟨w.heap.size + 1, 0, none⟩) (.inl (.inr rfl)) u
  have nt : ∀ j, w.heap.size ≤ j → ¬ T j := fun j hj e => by have := hT j e; omega
  have k2 : GQ T w (w.heap.size + 1 + 1) (w.heap.size + 1 + 1 + 1) w.heap.size v1 v2 vx W → GQ T w (w.heap.size + 1 + 1) (w.heap.size + 1 + 1 + 1) w.heap.size v1 v2 vx (w'.setCell ⟨w.heap.size + 1, 0, none⟩ u) := fun g =>
    g.step k1 (fun j e => e.elim .inl (fun e => .inr (by omega))) (fun e => e.elim (nt _ (by omega)) (fun e => by omega)) (fun e => e.elim (nt _ (by omega)) (fun e => by omega)) (fun e => e.elim (nt _ (by omega)) (fun e => by omega))
  refine ⟨k1, k2, k2 hq, ?_, hHq _ w' _ (fun j => j = w.heap.size + 1) hh (ChP.setCell (S := fun j => j = w.heap.size + 1) (ChP.refl _ w') (p := ⟨w.heap.size + 1, 0, none⟩) (.inl rfl) u) (fun j e => by omega)⟩
  have hb' : Boxed w' (w.heap.size + 1) t v := (hc'.block _ hb.lt (nt _ (by omega))).trans hb
  exact hb'.set u
set_option maxRecDepth 100000 in
set_option maxHeartbeats 4000000 in
theorem bsum_in (m : Nat) {w : World} {p : Option Addr} {n : Nat} {Bs : Nat → Nat} {T : Nat → Prop} {F2 : Nat} {lb2 : Array Value} (hFe : ∀ args w, (callFunc F2 args).run Tryz.prog w = .ok (.enter F2 args) w) (c : Nat → Nat) (hcb : ∀ i, i < n → c i ≤ 256)
    (H : Nat → World → Prop) (hH0 : H 0 w) (hHq : ∀ k W W' (U : Nat → Prop), H k W → ChP U W W' → (∀ j, U j → w.heap.size ≤ j) → H k W') (hT : ∀ k, T k → k < w.heap.size) (hbat : ∀ W, ChP T w W → BAt W p n Bs)
    (hof : ∀ W k, k < n → ChP T w W → H k W → Calls Tryz.prog F2 (#[.pointer (some ⟨Bs k, 0, none⟩)] ++ lb2) W fun e W' => e = .returned (.int .i64 ((c k : Nat) : Int)) ∧ H (k + 1) W' ∧ ChP T W W') :
    CallsIn Fence.wide (m + 6) Tryz.prog 30 #[.pointer p, .func (.func F2) #[] lb2] w fun e W' =>
      e = .returned (.int .i64 ((sumC c n : Nat) : Int)) ∧ H n W' ∧ ChP T w W' := by
  have hn := (hbat w (ChP.refl _ _)).le
  have HLe := Lib.hid (fun k (hk : k ≤ n) => sumC_le hcb k hk)
  have HCb := Lib.hid hcb
  have HH0 := Lib.hid hH0
  have HHq := Lib.hid hHq
  have HT := Lib.hid hT
  have HBat := Lib.hid hbat
  have HOf := Lib.hid hof
  clear hcb hH0 hHq hT hbat hof
  have hw : ∀ f, Fence.wide.fn f := fun _ => trivial
  have hd : Fence.wide.depth = none := rfl
  have h1 : 1 ≤ m + 6 := by omega
  refine callsIn_of_wp_marks Tryz.func30 rfl trivial ?_ rfl
  simp only [Tryz.ntmps30, List.size_toArray, List.length_cons, List.length_nil, Nat.reduceAdd, Nat.reduceSub, Array.replicate_succ, Array.replicate_zero, List.push_toArray, List.append_toArray, List.nil_append, List.cons_append]
  gi_wp2_with (gi_at_call 35; refine (those_in _ _ _ _ _).mono ?_; rintro e w' ⟨rfl, rfl⟩)
  obtain ⟨W1, hW1⟩ : ∃ W1, W1 = w.alloc (.cells #[.func (.func F2) #[] lb2] 81) := ⟨_, rfl⟩
  obtain ⟨W2, hW2⟩ : ∃ W2, W2 = W1.alloc (.cells #[.int .i64 0] 3) := ⟨_, rfl⟩
  obtain ⟨W3, hW3⟩ : ∃ W3, W3 = W2.alloc (.cells #[.pointer p] 25) := ⟨_, rfl⟩
  obtain ⟨W0, hW0⟩ : ∃ W0, W0 = W3.alloc (.cells #[.func (.func 53) #[] #[]] 89) := ⟨_, rfl⟩
  have s1 : W1.heap.size = w.heap.size + 1 := by rw [hW1]; simp
  have s2 : W2.heap.size = w.heap.size + 1 + 1 := by rw [hW2]; simp [s1]
  have s3 : W3.heap.size = w.heap.size + 1 + 1 + 1 := by rw [hW3]; simp [s2]
  have hsz : W0.heap.size = w.heap.size + 1 + 1 + 1 + 1 := by rw [hW0]; simp [s3]
  have bx : Boxed W0 w.heap.size 81 (.func (.func F2) #[] lb2) := by
    rw [hW0, hW3, hW2, hW1]; exact (((Boxed.new w _ _).alloc _).alloc _).alloc _
  have bm : Boxed W0 (w.heap.size + 1) 3 (.int .i64 0) := by
    rw [hW0, hW3, hW2, ← s1]; exact ((Boxed.new W1 _ _).alloc _).alloc _
  have b1 : Boxed W0 (w.heap.size + 1 + 1) 25 (.pointer p) := by
    rw [hW0, hW3, ← s2]; exact (Boxed.new W2 _ _).alloc _
  have b2 : Boxed W0 (w.heap.size + 1 + 1 + 1) 89 (.func (.func 53) #[] #[]) := by
    rw [hW0, ← s3]; exact Boxed.new W3 _ _
  have hc0 : Ch [] w W0 := by rw [hW0, hW3, hW2, hW1]; exact ((((Ch.refl [] w).alloc _).alloc _).alloc _).alloc _
  rw [← hW1, ← hW2, ← hW3, ← hW0]
  clear hW0 hW1 hW2 hW3 s1 s2 s3
  have hq0 : GQ T w (w.heap.size + 1 + 1) (w.heap.size + 1 + 1 + 1) w.heap.size (.pointer p) (.func (.func 53) #[] #[]) (.func (.func F2) #[] lb2) W0 := ⟨.quiet hc0, b1.cell, b2.cell, bx.cell⟩
  have hh0 : H 0 W0 := HHq.out 0 w W0 (fun _ => False) HH0.out (.quiet hc0) (fun _ e => e.elim)
  clear hc0 b1 b2 bx HH0
  refine wpIn_range_p rfl h1 (gf := 56) (lb := #[.pointer (some ⟨w.heap.size + 1 + 1, 0, none⟩), .pointer (some ⟨w.heap.size + 1 + 1 + 1, 0, none⟩)]) rfl trivial (enters_of Tryz.func56 (by kernel_rfl) rfl)
    (those_stops (m + 6 - 1) (Good := GQ T w (w.heap.size + 1 + 1) (w.heap.size + 1 + 1 + 1) w.heap.size (.pointer p) (.func (.func 53) #[] #[]) (.func (.func F2) #[] lb2)) (p := p) (n := n) (Bs := Bs) (F := 53) (lb := #[]) (q := fun _ => true)
      ⟨enters_of Tryz.func53 (by kernel_rfl) rfl, fun W g => g.c1, fun W g => g.c2, fun W g => HBat.out W g.ch, fun W g i hi => by
        rw [app0]
        exact sum1_any _ _ W, fun W W' g hc => g.quiet hc⟩ W0 (fun W hB => hq0.quiet (.of_below hB)))
    (fun A B hAB k o hk _ _ => (hAB.block k (Array.getElem?_eq_some_iff.1 hk).1 (by simp)).trans hk)
    (fun h k g => k (h g)) (fun W l o o' hl ho hc _ _ g => gq_b l o o' (by omega) ho hc g) (fun _ => rfl)
    (fun pre W => GQ T w (w.heap.size + 1 + 1) (w.heap.size + 1 + 1 + 1) w.heap.size (.pointer p) (.func (.func 53) #[] #[]) (.func (.func F2) #[] lb2) W ∧ Boxed W (w.heap.size + 1) 3 (.int .i64 ((sumC c pre.length : Nat) : Int)) ∧ H pre.length W)
    (fun _ _ _ => False)
    (OwnFrom.and (ownFrom_gq (by omega)) (OwnFrom.and (Own.from (boxed_own (w.heap.size + 1) 3 (fun pre : List (SuchC n fun _ => true) => .int .i64 ((sumC c pre.length : Nat) : Int))) _)
      (fun s W W' row hs hg hr => HHq.out _ W W' (fun j => row = some j) hs (.grown hg (fun _ e => e)) (fun j e => by have := (hr j e).1; omega))))
    (fun s A B hs hc => ⟨hs.1.quiet hc, hs.2.1.kept hc.grown0 (by simp), HHq.out _ A B (fun _ => False) hs.2.2 (.quiet hc) (fun _ e => e.elim)⟩)
    (fun _ _ _ _ _ hs _ _ => hs)
    ⟨hq0, bm, hh0⟩
    (fun x => { tmps := #[.pointer p, .func (.func F2) #[] lb2, undef, .pointer (some ⟨w.heap.size, 0, none⟩), .int .i64 0, .pointer (some ⟨w.heap.size + 1, 0, none⟩), undef, .pointer (some ⟨Bs x.1, 0, none⟩), .pointer p, .func (.func 56) #[] #[.pointer (some ⟨w.heap.size + 1 + 1, 0, none⟩), .pointer (some ⟨w.heap.size + 1 + 1 + 1, 0, none⟩)], .int .i64 ((x.1 : Nat) : Int), .pointer (some ⟨Bs x.1, 0, none⟩), undef, undef, undef, undef, undef, undef], defers := [] }) ?assign ?body ?done ?stop
  case assign =>
    intro l x W K hK
    gi_wp2
    exact hK
  case body =>
    rintro l pre x W ⟨hq, hb, hh⟩ hpre
    have hx : x.1 = pre.length := by
      have h2 := range_snoc (l := valsC pre) (x := x.1) (n := n) (by rw [← selC_all]; simpa [valsC] using hpre)
      simpa using h2
    have hxn := x.2.1
    rw [hx] at hxn ⊢
    have HL := Lib.hid (show (pre ++ [x]).length = pre.length + 1 by simp)
    obtain ⟨k, hk⟩ : ∃ k, k = pre.length := ⟨_, rfl⟩
    rw [← hk] at hxn hb hh HL ⊢
    have HC := Lib.hid (HOf.out W.drew k hxn hq.ch.drew (HHq.out k W W.drew (fun _ => False) hh (ChP.refl _ W).drew (fun _ e => e.elim)))
    have hcx := hq.cx
    have hc := hb.cell
    have hf := hb.frozen
    have hlt := hb.lt
    have hs1 : (sumC c k : Int) ≤ 16384 := by
      have h3 := HLe.out k (by omega)
      have : k * 256 ≤ 64 * 256 := Nat.mul_le_mul_right _ (by omega)
      omega
    have hs2 : (c k : Int) ≤ 256 := by have := HCb.out k hxn; omega
    have HQ := Lib.hid hq
    have HB := Lib.hid hb
    obtain ⟨s0, hs0⟩ : ∃ s, s = sumC c k := ⟨_, rfl⟩
    obtain ⟨ck, hck⟩ : ∃ s, s = c k := ⟨_, rfl⟩
    have HSn := Lib.hid (show sumC c (k + 1) = s0 + ck by rw [hs0, hck]; rfl)
    rw [← hs0] at hs1 hc HB
    rw [← hck] at hs2 HC
    have hwr : IntKind.i64.wrap ((s0 : Int) + (ck : Int)) = (s0 : Int) + (ck : Int) := IntWalk.i64_in _ (by omega)
    clear hk hq hb hh hq0 bm hh0 hx hs0 hck hpre
    gi_wp2_with fail
    gi_region_with (refine (CallsIn.inRound l (callsIn_wide.2 HC.out)).mono ?_; rintro e w' ⟨rfl, hH', hc'⟩; have e0 := (hc'.cell (p := ⟨w.heap.size + 1, 0, none⟩) hlt (fun e => by have := HT.out _ e; simp at this; omega)).trans hc; have e1 := (hc'.frozen (p := ⟨w.heap.size + 1, 0, none⟩) hlt (fun e => by have := HT.out _ e; simp at this; omega)).trans hf; have HH' := Lib.hid hH'; have HC' := Lib.hid hc'; clear hH' hc')
    all_goals
      gi_wp2
      obtain ⟨k1, k2, k3, k4, k5⟩ := sum_end HQ.out HB.out HC'.out HT.out HHq.out HH'.out (.int .i64 ((s0 : Int) + (ck : Int)))
      refine ⟨k1.keeps (fun j e => e.elim (fun e => by have := HT.out _ e; omega) (fun e => by omega)), k2, k3, ?_, by rw [HL.out]; exact k5⟩
      rw [HL.out, HSn.out]
      exact k4
  case done =>
    rintro D ys W hD hys ⟨hq, hb, hh⟩ hK
    have hl : ys.length = n := by
      have := congrArg List.length hys
      rw [selC_all] at this
      simpa using this
    rw [hl] at hb hh
    have hc := hb.cell
    have HQ := Lib.hid hq
    have HH := Lib.hid hh
    clear hq hb hq0 bm hys hh hh0
    gi_wp2
    refine ⟨by simp, .inl ⟨_, _, rfl, run_takeDeferred hK, ?_⟩⟩
    exact ⟨_, results_tmp rfl _ _ _, rfl, HHq.out _ _ _ (fun j => j = D) HH.out (chP_putObj W D _) (fun j e => by omega), (gq_b D _ _ (by omega) hK rfl HQ.out).ch⟩
  case stop =>
    rintro D c pre W _ _ h _
    exact h.elim
theorem bsum_any {w : World} {p : Option Addr} {n : Nat} {Bs : Nat → Nat} {T : Nat → Prop} {F2 : Nat} {lb2 : Array Value} (hFe : ∀ args w, (callFunc F2 args).run Tryz.prog w = .ok (.enter F2 args) w) (c : Nat → Nat) (hcb : ∀ i, i < n → c i ≤ 256)
    (H : Nat → World → Prop) (hH0 : H 0 w) (hHq : ∀ k W W' (U : Nat → Prop), H k W → ChP U W W' → (∀ j, U j → w.heap.size ≤ j) → H k W') (hT : ∀ k, T k → k < w.heap.size) (hbat : ∀ W, ChP T w W → BAt W p n Bs)
    (hof : ∀ W k, k < n → ChP T w W → H k W → Calls Tryz.prog F2 (#[.pointer (some ⟨Bs k, 0, none⟩)] ++ lb2) W fun e W' => e = .returned (.int .i64 ((c k : Nat) : Int)) ∧ H (k + 1) W' ∧ ChP T W W') :
    Calls Tryz.prog 30 #[.pointer p, .func (.func F2) #[] lb2] w fun e W' =>
      e = .returned (.int .i64 ((sumC c n : Nat) : Int)) ∧ H n W' ∧ ChP T w W' := callsIn_wide.1 (bsum_in 0 hFe c hcb H hH0 hHq hT hbat hof)
theorem app01 (a : Value) : #[a] ++ (#[] : Array Value) = #[a] := rfl
theorem app11 (a b : Value) : #[a] ++ #[b] = #[a, b] := rfl
/-- How many timers are held in all. -/
def lens (f : Nat → Wh) (n : Nat) : Nat := sumC (fun i => (f i).L.length) n
theorem blen_any {w : World} {base n : Nat} {p : Option Addr} {f : Nat → Wh} (h : BO w base p n f) :
    Calls Tryz.prog 21 #[.pointer p] w fun e W' => e = .returned (.int .i64 ((lens f n : Nat) : Int)) ∧ Ch [] w W' := by
  have HS := Lib.hid (bsum_any (w := w) (p := p) (n := n) (Bs := fun i => (f i).B) (T := fun _ => False) (F2 := 46) (lb2 := #[]) (enters_of Tryz.func46 (by kernel_rfl) rfl) (fun i => (f i).L.length) (fun i hi => (h.wh hi).wi.len)
    (fun _ W => Ch [] w W) (Ch.refl _ _) (fun _ W W' U hs hc hU => (ChP.fresh (S := fun _ => False) (.quiet hs) hc (fun k e => .inr (hU k e))).ch (fun _ => id)) (fun _ e => e.elim) (fun W hc => (h.quiet (hc.ch (fun _ => id))).bat)
    (fun W k hk _ hs => by
      rw [app01]
      exact (len_any ((h.quiet hs).wh hk)).mono fun _ _ ⟨he, hw⟩ => ⟨he, by rw [hw]; exact hs, by rw [hw]; exact ChP.refl _ _⟩))
  unfold lens
  generalize sumC (fun i => (f i).L.length) n = s at HS ⊢
  clear h
  go_enter Tryz.func21, Tryz.ntmps21
  go_wp2_with fail
  with_reducible refine HS.out.mono ?_
  rintro e w1 ⟨rfl, hc, -⟩
  go_wp2_with fail
  go_ret
  exact ⟨rfl, hc⟩
/-- The wheels, these numbers taken out of the first k. -/
def delW (f : Nat → Wh) (zs : List Int) (k : Nat) : Nat → Wh := fun i => if i < k then { f i with L := delL (f i).L zs } else f i
theorem delW_zero (f : Nat → Wh) (zs : List Int) : delW f zs 0 = f := by funext i; simp [delW]
theorem delW_at (f : Nat → Wh) (zs : List Int) (k : Nat) : delW f zs k k = f k := by simp [delW]
theorem delW_succ (f : Nat → Wh) (zs : List Int) (k : Nat) : updW (delW f zs k) k { f k with L := delL (f k).L zs } = delW f zs (k + 1) := by
  funext i
  unfold updW delW
  by_cases e : i = k
  · subst e; rw [if_pos rfl, if_pos (by omega)]
  · rw [if_neg e]
    by_cases h : i < k
    · rw [if_pos h, if_pos (by omega)]
    · rw [if_neg h, if_neg (by omega)]
theorem delW_B (f : Nat → Wh) (zs : List Int) (k i : Nat) : (delW f zs k i).B = (f i).B ∧ (delW f zs k i).S = (f i).S ∧ (delW f zs k i).now = (f i).now ∧ (delW f zs k i).puts = (f i).puts := by
  unfold delW
  split <;> exact ⟨rfl, rfl, rfl, rfl⟩
theorem delW_SU (f : Nat → Wh) (zs : List Int) (k n j : Nat) : SU (delW f zs k) n j ↔ SU f n j := by
  unfold SU
  constructor
  · rintro ⟨i, hi, h⟩; exact ⟨i, hi, by rw [← (delW_B f zs k i).2.1]; exact h⟩
  · rintro ⟨i, hi, h⟩; exact ⟨i, hi, by rw [(delW_B f zs k i).2.1]; exact h⟩
theorem delL_mem {L : List Tm} : ∀ {zs : List Int} {t : Tm}, t ∈ delL L zs → t ∈ L := by
  intro zs
  induction zs generalizing L with
  | nil => intro t h; exact h
  | cons z r ih =>
    intro t h
    have h1 : t ∈ delL (less L z) r := h
    exact (less_mem.1 (ih h1)).1
/-- Del's answer: how many of these were held. -/
def dels (f : Nat → Wh) (n : Nat) (zs : List Int) : Nat := sumC (fun i => (f i).L.length - (delL (f i).L zs).length) n
theorem bdel_any {w : World} {base K G cap n : Nat} {f : Nat → Wh} (h : BK w base K G cap n f) {a : Option Addr} {cp : Nat} {zs : List Int} (hz : Mk.IntsAt w a zs) (hl : zs.length ≤ 9223372036854775807) (hwf : ∀ x ∈ zs, wf64 x) (hn : ∀ b o, a = some ⟨b, o, none⟩ → b < w.heap.size ∧ ¬ SU f n b) :
    Calls Tryz.prog 11 #[.pointer (some ⟨K, 0, none⟩), .slice a zs.length cp] w fun e W' => e = .returned (.int .i64 ((dels f n zs : Nat) : Int)) ∧ BK W' base K G cap n (delW f zs n) ∧ ChP (SU f n) w W' := by
  obtain ⟨m, hm⟩ : ∃ m, m = zs.length := ⟨_, rfl⟩
  obtain ⟨w1, hw1⟩ : ∃ w1, w1 = w.alloc (.cells #[.slice a zs.length cp] 24) := ⟨_, rfl⟩
  have hq : Ch [] w w1 := by rw [hw1]; exact (Ch.refl [] w).alloc _
  have hcb : w1.cell? ⟨w.heap.size, 0, none⟩ = some (.slice a zs.length cp) := by rw [hw1]; exact (cell_new w _ _).1
  have h1 := h.quiet hq
  have hsz : w1.heap.size = w.heap.size + 1 := by rw [hw1]; simp
  have hlt : ∀ j, SU f n j → j < w.heap.size := fun j hj => (h.ltS hj).2
  have hfr : ∀ W, ChP (SU f n) w1 W → W.cell? ⟨w.heap.size, 0, none⟩ = some (.slice a zs.length cp) ∧ Mk.IntsAt W a zs ∧ BAt W (some ⟨K, 0, none⟩) n (fun i => (f i).B) := fun W hc => by
    refine ⟨(hc.cell (p := ⟨w.heap.size, 0, none⟩) (by simp [hsz]) (fun e => by have := hlt _ e; simp at this)).trans hcb, ?_, .inr ⟨K, G, cap, rfl, h.n1, ?_, fun i hi => ?_⟩⟩
    · rcases hz with h0 | ⟨b, o, rfl, h2⟩
      · exact .inl h0
      · refine .inr ⟨b, o, rfl, fun i hi => ?_⟩
        have hb := hn b o rfl
        exact (hc.cell (p := ⟨b, o + i, none⟩) (by rw [hsz]; simp only []; omega) hb.2).trans ((hq.cell (p := ⟨b, o + i, none⟩) hb.1 (by simp)).trans (h2 i hi))
    · exact (hc.cell (p := ⟨K, 0, none⟩) h1.ltK (fun ⟨i, hi, e⟩ => (h.out i hi).1 e)).trans h1.c
    · exact (hc.cell (p := ⟨G, i, none⟩) h1.ltG (fun ⟨j, hj, e⟩ => (h.out j hj).2 e)).trans (h1.row i hi)
  have HS := Lib.hid (bsum_any (w := w1) (p := some ⟨K, 0, none⟩) (n := n) (Bs := fun i => (f i).B) (T := SU f n) (F2 := 31) (lb2 := #[.pointer (some ⟨w.heap.size, 0, none⟩)]) (enters_of Tryz.func31 (by kernel_rfl) rfl) (fun i => (f i).L.length - (delL (f i).L zs).length) (fun i hi => Nat.le_trans (Nat.sub_le _ _) (h.wh i hi).wi.len)
    (fun k W => BK W base K G cap n (delW f zs k)) (by rw [delW_zero]; exact h1) (fun k W W' U hs hc hU => hs.frame hc (fun e => by have := hU _ e; have := h1.ltK; omega) (fun e => by have := hU _ e; have := h1.ltG; omega) (fun j hj e => by
      have h3 := hlt j ((delW_SU f zs k n j).1 hj)
      have := hU _ e
      omega)) (fun j hj => by have := hlt j hj; omega) (fun W hc => (hfr W hc).2.2)
    (fun W k hk hc hs => by
      rw [app11]
      have hwb := hs.wh k hk
      rw [delW_at] at hwb
      obtain ⟨f1, f2, _⟩ := hfr W hc
      refine (del1_any (cap := cp) hwb f2 hl hwf (fun b o e hS => (hn b o e).2 ⟨k, hk, hS⟩) f1).mono fun _ _ ⟨he, hw', hc'⟩ => ⟨he, ?_, hc'.mono fun j hj => ⟨k, hk, hj⟩⟩
      rw [← delW_succ]
      refine hs.upd hk hw' ?_ (by rw [delW_at]; exact hc') (fun j hj => .inl (by rw [delW_at]; exact hj)) (fun t ht => .inl ⟨t, by rw [delW_at]; exact delL_mem ht, rfl⟩)
      rw [delW_at]))
  have HQ := Lib.hid hq
  have HA : Hid (w1 = w.alloc (.cells #[.slice a zs.length cp] 24)) := Lib.hid hw1
  unfold dels
  generalize sumC (fun i => (f i).L.length - (delL (f i).L zs).length) n = s at HS ⊢
  rw [← hm] at HA ⊢
  clear h hz hl hwf hn hm hw1 hq hcb h1 hsz hlt hfr
  go_enter Tryz.func11, Tryz.ntmps11
  go_wp2_with fail
  rw [← HA.out]
  with_reducible refine HS.out.mono ?_
  rintro e w2 ⟨rfl, hb, hc⟩
  go_frame
  go_wp2_with fail
  go_ret
  exact ⟨rfl, hb, (ChP.quiet (S := SU f n) HQ.out).trans hc⟩
/-- Del of a nil bank. -/
theorem bdel_nil (a : Option Addr) (len cp : Nat) (w : World) :
    Calls Tryz.prog 11 #[.pointer none, .slice a len cp] w fun e W' => e = .returned (.int .i64 0) ∧ Ch [] w W' := by
  obtain ⟨w1, hw1⟩ : ∃ w1, w1 = w.alloc (.cells #[.slice a len cp] 24) := ⟨_, rfl⟩
  have hq : Ch [] w w1 := by rw [hw1]; exact (Ch.refl [] w).alloc _
  have HS := Lib.hid (bsum_any (w := w1) (p := none) (n := 0) (Bs := fun _ => 0) (T := fun _ => False) (F2 := 31) (lb2 := #[.pointer (some ⟨w.heap.size, 0, none⟩)]) (enters_of Tryz.func31 (by kernel_rfl) rfl) (fun _ => 0) (fun i hi => by omega)
    (fun _ _ => True) trivial (fun _ _ _ _ _ _ _ => trivial) (fun _ e => e.elim) (fun W hc => .inl ⟨rfl, rfl⟩) (fun W k hk _ _ => by omega))
  have HQ := Lib.hid hq
  have HA : Hid (w1 = w.alloc (.cells #[.slice a len cp] 24)) := Lib.hid hw1
  clear hw1 hq
  go_enter Tryz.func11, Tryz.ntmps11
  go_wp2_with fail
  rw [← HA.out]
  with_reducible refine HS.out.mono ?_
  rintro e w2 ⟨rfl, hb, hc⟩
  go_frame
  go_wp2_with fail
  go_ret
  exact ⟨rfl, HQ.out.trans (hc.ch (fun _ => id))⟩
end Go.Proofs.YtnndofeomakpiaaGreatDoor

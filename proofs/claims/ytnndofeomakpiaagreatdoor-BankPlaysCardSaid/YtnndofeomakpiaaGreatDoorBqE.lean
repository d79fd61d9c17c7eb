/-
  The program's bank beside the document's answer: Put, Del, Catch of both, one after the other.
-/
import Derived.Test.YtnndofeomakpiaaGreatDoorBqD
namespace Go.Proofs.YtnndofeomakpiaaGreatDoor
open Go.RowKit Go.Maps

theorem sumQ_zero {c : Nat → Nat} : ∀ n, (∀ i, i < n → c i = 0) → sumC c n = 0
  | 0, _ => rfl
  | n + 1, h => by simp only [sumC]; rw [sumQ_zero n (fun i hi => h i (by omega)), h n (by omega)]
theorem sumQ_one {c : Nat → Nat} {j : Nat} : ∀ n, j < n → (∀ i, i < n → i ≠ j → c i = 0) → sumC c n = c j
  | 0, h, _ => by omega
  | n + 1, hj, h => by
    simp only [sumC]
    by_cases e : j = n
    · subst e
      rw [sumQ_zero j (fun i hi => h i (by omega) (by omega))]
      omega
    · rw [sumQ_one n (by omega) (fun i hi => h i (by omega)), h n (by omega) (by omega)]
      omega
/-- The program's bank (f); the answer's (m, which tells of g); a call that came in (A). -/
structure BP (w0 w : World) (K n : Nat) (f : Nat → Wh) (m : Value) (g : Nat → Wh) (A na : Nat) (c : Nat → Value) : Prop where
  bl : BL w0 w K n f
  rb : RB w w0.heap.size m n g (fun k => ¬ SU f n k)
  act : ∀ o, o < na → w.cell? ⟨A, o, none⟩ = some (c o)
  an : na = 0 ∨ ¬ SU f n A
theorem Four.chP {T : Nat → Prop} {w w' : World} {b : Nat} {x y z u : Value} (h : Four w b x y z u) (hc : ChP T w w') (hn : ¬ T b) : Four w' b x y z u :=
  ⟨(hc.cell (p := ⟨b, 0, none⟩) h.lt hn).trans h.c0, (hc.cell (p := ⟨b, 1, none⟩) h.lt hn).trans h.c1, (hc.cell (p := ⟨b, 2, none⟩) h.lt hn).trans h.c2, (hc.cell (p := ⟨b, 3, none⟩) h.lt hn).trans h.c3⟩
section
variable {w0 w w' : World} {K n A na : Nat} {f g : Nat → Wh} {m : Value} {c : Nat → Value}
theorem BL.su (h : BL w0 w K n f) {k : Nat} (hk : SU f n k) : w0.heap.size ≤ k ∧ k < w.heap.size := by obtain ⟨G, cap, h1⟩ := h.bk; exact h1.ltS hk
theorem acts_chP {T : Nat → Prop} (h : ∀ o, o < na → w.cell? ⟨A, o, none⟩ = some (c o)) (hc : ChP T w w') (hT : na = 0 ∨ ¬ T A) : ∀ o, o < na → w'.cell? ⟨A, o, none⟩ = some (c o) := fun o ho =>
  (hc.cell (p := ⟨A, o, none⟩) (cell_lt (h o ho)) (hT.resolve_left (by omega))).trans (h o ho)
theorem BP.quiet (h : BP w0 w K n f m g A na c) (hc : Ch [] w w') : BP w0 w' K n f m g A na c :=
  ⟨h.bl.quiet hc, h.rb.quiet hc, acts_chP h.act (T := fun _ => False) (.quiet hc) (.inr (fun e => e)), h.an⟩
/-- The answer's next list. -/
theorem BP.pend (h : BP w0 w K n f m g A na c) (hc : Ch [] w w') {m' : Value} {g' : Nat → Wh} (hr : RB w' w0.heap.size m' n g' (fun k => ¬ SU f n k ∨ w.heap.size ≤ k)) : BP w0 w' K n f m' g' A na c :=
  ⟨h.bl.quiet hc, hr.mono (fun k hk _ => hk.elim id (fun h1 h2 => by have := (h.bl.su h2).2; omega)), (h.quiet hc).act, h.an⟩
/-- A step of the program's bank. -/
theorem BP.step (h : BP w0 w K n f m g A na c) {G cap : Nat} {f' : Nat → Wh} (hb : BK w' w0.heap.size K G cap n f') (hc : ChP (SU f n) w w') (hS : ∀ k, SU f' n k → SU f n k ∨ w.heap.size ≤ k) : BP w0 w' K n f' m g A na c := by
  refine ⟨h.bl.step hb hc (fun k hk => (h.bl.su hk).1), (((h.rb.mono (Q := fun k => ¬ SU f n k ∧ k < w.heap.size) (fun k hk hl => ⟨hk, hl⟩)).chP hc (fun k hk => hk.1)).mono (fun k hk _ e => ?_)), acts_chP h.act hc h.an, ?_⟩
  · rcases hS k e with h1 | h1
    · exact hk.1 h1
    · have := hk.2; omega
  · by_cases hna : na = 0
    · exact .inl hna
    · refine .inr fun e => ?_
      have h9 : A < w.heap.size := cell_lt (h.act 0 (by omega))
      rcases hS A e with h1 | h1
      · exact h.an.resolve_left hna h1
      · omega
theorem BP.settle (h : BP w0 w K n f m g A na c) (e : ∀ i, i < n → (f i).now = (g i).now ∧ (f i).L = (g i).L) : BP w0 w K n f m f A na c :=
  ⟨h.bl, h.rb.congr e, h.act, h.an⟩
theorem updW_L (f : Nat → Wh) (c : Nat) : updW f c { f c with L := (f c).L } = f := updW_self f c
theorem ownB_of {f : Nat → Wh} {n : Nat} {id : Int} {b : Option Nat} (h : ownO f n id = b) : ownB f n id = b.isSome := by unfold ownB; rw [h]
theorem BP.lens (h : BP w0 w K n f m g A na c) : ∀ i, i < n → (f i).L.length ≤ 256 := fun _ hi => (h.bl.wi hi).len
theorem BP.put_both (h : BP w0 w K n f m f A na c) (cpu : Int) {id : Int} (hid : wf64 id) {at' : Int} (ha : Wd at') (hp : ∀ i, i < n → (f i).puts < 4611686018427387904) :
    ∃ (q : Sp) (E : Int) (g : Nat → Wh),
      Calls Tryz.prog 7 #[m, .int .i64 cpu, .int .i64 id, .int .u64 at'] w (fun e w1 => ∃ m', e = .returned (.tuple #[m', spV q, .int .i64 E]) ∧ BP w0 w1 K n f m' g A na c ∧ Ch [] w w1) ∧
      ∀ (w1 wb : World) (m' : Value), BP w0 w1 K n f m' g A na c → Ch [] w1 wb →
        Calls Tryz.prog 8 #[.pointer (some ⟨K, 0, none⟩), .int .i64 cpu, .int .i64 id, .int .u64 at'] wb fun e w2 => e = .returned (.tuple #[spV q, .int .i64 E]) ∧
          (∃ f', BP w0 w2 K n f' m' f' A na c ∧ ∀ i, i < n → (f' i).puts ≤ (f i).puts + 1) ∧ ChP (SU f n) wb w2 := by
  have hn := h.bl.le
  have hl := h.lens
  have stay : ∀ {wb w2 : World} {m' : Value} {w1 : World}, BP w0 w1 K n f m' f A na c → Ch [] w1 wb → Ch [] wb w2 → (∃ f', BP w0 w2 K n f' m' f' A na c ∧ ∀ i, i < n → (f' i).puts ≤ (f i).puts + 1) ∧ ChP (SU f n) wb w2 := fun k1 hb hc => ⟨⟨f, (k1.quiet hb).quiet hc, fun i _ => by omega⟩, .quiet hc⟩
  by_cases hr : cpu < 0 ∨ (n : Int) ≤ cpu ∨ id < 0 ∨ 255 < id
  · refine ⟨sp0, 2, f, (rbput_out h.rb hr at').mono fun _ _ ⟨he, hc⟩ => ⟨m, he, h.quiet hc, hc⟩, fun w1 wb m' k1 hb => ?_⟩
    obtain ⟨G, cap, j1⟩ := (k1.quiet hb).bl.bk
    by_cases hc : cpu < 0 ∨ (n : Int) ≤ cpu
    · exact (bput_out j1 hc id at').mono fun _ _ ⟨he, hc⟩ => ⟨he, stay k1 hb hc⟩
    · obtain ⟨cn, rfl⟩ : ∃ cn : Nat, cpu = (cn : Int) := ⟨cpu.toNat, by omega⟩
      exact (bput_range j1 (by omega) hid (by omega) at').mono fun _ _ ⟨he, hc⟩ => ⟨he, stay k1 hb hc⟩
  obtain ⟨cn, rfl⟩ : ∃ cn : Nat, cpu = (cn : Int) := ⟨cpu.toNat, by omega⟩
  have hcn : cn < n := by omega
  have h0 : 0 ≤ id := by omega
  have h1 : id < 256 := by omega
  cases ho : ownO f n id with
  | some b =>
    refine ⟨sp0, 5, f, (rbput_twice h.rb hn hl hcn h0 h1 ho at').mono fun _ _ ⟨he, hc⟩ => ⟨m, he, h.quiet hc, hc⟩, fun w1 wb m' k1 hb => ?_⟩
    obtain ⟨G, cap, j1⟩ := (k1.quiet hb).bl.bk
    exact (bput_twice j1 hcn hid (ownB_of ho) at').mono fun _ _ ⟨he, hc⟩ => ⟨he, stay k1 hb hc⟩
  | none =>
    have hno := ownO_none.1 ho cn hcn
    by_cases hm : (f cn).now = 18446744073709551615
    · refine ⟨sp0, 12, f, (rbput_rest h.rb h.bl.bel.size hn hl hcn h0 h1 ho at' (s := sp0) (E := 12) (L' := (f cn).L) (fun W v hW hv hg => (rput_max hv (hl cn hcn) h0 h1 hno hm at').mono fun _ _ ⟨he, hc⟩ => ⟨v, he, hv.quiet hc, .inl rfl, hc⟩)).mono fun _ _ ⟨m', he, hrb, hc⟩ => ⟨m', he, h.pend hc (by rw [updW_L] at hrb; exact hrb), hc⟩, fun w1 wb m' k1 hb => ?_⟩
      obtain ⟨G, cap, j1⟩ := (k1.quiet hb).bl.bk
      exact (bput_max j1 hcn h0 h1 (ownB_of ho) at' hm).mono fun _ _ ⟨he, hc⟩ => ⟨he, stay k1 hb hc⟩
    · refine ⟨placeV (f cn).now at', 0, updW f cn { f cn with L := (f cn).L ++ [⟨id, placeV (f cn).now at', (f cn).puts⟩] }, (rbput_rest h.rb h.bl.bel.size hn hl hcn h0 h1 ho at' (fun W v hW hv hg => (rput_ok hv (Nat.le_trans h.bl.bel.size hW.size) (hl cn hcn) h0 h1 hno (h.bl.wi hcn).wd ha hm (f cn).puts).mono fun _ _ ⟨v', he, hr', hc⟩ => ⟨v', he, hr'.mono (Nat.le_trans h.bl.bel.size hW.size), .inr fun g hg => (World.ownsRow.lt hr' g hg).1, hc⟩)).mono fun _ _ ⟨m', he, hrb, hc⟩ => ⟨m', he, h.pend hc hrb, hc⟩, fun w1 wb m' k1 hb => ?_⟩
      obtain ⟨G, cap, j1⟩ := (k1.quiet hb).bl.bk
      refine (bput_ok j1 hcn h0 h1 (ownB_of ho) ha hm (hp cn hcn)).mono fun e w2 ⟨he, S', hb', hS', hc⟩ => ⟨he, ⟨_, ((k1.quiet hb).step hb' (hc.mono fun k hk => ⟨cn, hcn, hk⟩) (fun k hk => ?_)).settle (fun i hi => ?_), fun i hi => ?_⟩, hc.mono fun k hk => ⟨cn, hcn, hk⟩⟩
      · obtain ⟨i, hi, hk⟩ := hk
        by_cases e : i = cn
        · subst e
          rw [updW_same] at hk
          exact (hS' k hk).imp (fun h => ⟨i, hi, h⟩) (fun h => h)
        · rw [updW_other f _ e] at hk
          exact .inl ⟨i, hi, hk⟩
      · by_cases e : i = cn
        · subst e
          rw [updW_same, updW_same]
          exact ⟨rfl, rfl⟩
        · rw [updW_other f _ e, updW_other f _ e]
          exact ⟨rfl, rfl⟩
      · by_cases e : i = cn
        · subst e
          rw [updW_same]
          exact Nat.le_refl _
        · rw [updW_other f _ e]
          omega
theorem BP.del_both (h : BP w0 w K n f m f A na c) {id : Int} (hid : wf64 id) :
    ∃ (b : Bool) (g : Nat → Wh),
      Calls Tryz.prog 10 #[m, .int .i64 id] w (fun e w1 => ∃ m', e = .returned (.tuple #[m', .bool b]) ∧ BP w0 w1 K n f m' g A na c ∧ Ch [] w w1) ∧
      ∀ (w1 wb : World) (m' : Value) (o : Obj) (cp : Nat), BP w0 w1 K n f m' g A na c → Ch [] w1 wb → Mk.IntsAt (wb.alloc o) (some ⟨wb.heap.size, 0, none⟩) [id] →
        Calls Tryz.prog 11 #[.pointer (some ⟨K, 0, none⟩), .slice (some ⟨wb.heap.size, 0, none⟩) 1 cp] (wb.alloc o) fun e w2 => e = .returned (.int .i64 (if b then 1 else 0)) ∧
          (∃ f', BP w0 w2 K n f' m' f' A na c ∧ ∀ i, i < n → (f' i).puts ≤ (f i).puts + 1) ∧ ChP (SU f n) (wb.alloc o) w2 := by
  have hn := h.bl.le
  have hl := h.lens
  have hdel : ∀ {w1 wb : World} {m' : Value} {g : Nat → Wh} (o : Obj) (cp : Nat), (∀ i, i < n → (f i).now = (g i).now ∧ less (f i).L id = (g i).L) → BP w0 w1 K n f m' g A na c → Ch [] w1 wb → Mk.IntsAt (wb.alloc o) (some ⟨wb.heap.size, 0, none⟩) [id] →
      Calls Tryz.prog 11 #[.pointer (some ⟨K, 0, none⟩), .slice (some ⟨wb.heap.size, 0, none⟩) 1 cp] (wb.alloc o) fun e w2 => e = .returned (.int .i64 ((sumC (fun i => (f i).L.length - (less (f i).L id).length) n : Nat) : Int)) ∧
          (∃ f', BP w0 w2 K n f' m' f' A na c ∧ ∀ i, i < n → (f' i).puts ≤ (f i).puts + 1) ∧ ChP (SU f n) (wb.alloc o) w2 := by
    intro w1 wb m' g o cp hg k1 hb hz
    have hal := hb.alloc o
    obtain ⟨G, cap, j1⟩ := (k1.quiet hal).bl.bk
    have hlt : w1.heap.size ≤ wb.heap.size := hb.size
    refine (bdel_any (cp := cp) j1 hz (by simp) (fun x hx => by simp at hx; exact hx ▸ hid) (fun b o' e => ?_)).mono fun e w2 ⟨he, hb', hc⟩ => ⟨he, ⟨delW f [id] n, ((k1.quiet hal).step hb' hc (fun k hk => .inl ((delW_SU f [id] n n k).1 hk))).settle (fun i hi => ?_), fun i hi => ?_⟩, hc⟩
    · cases e
      refine ⟨by rw [World.size_alloc]; omega, fun e => ?_⟩
      have := (k1.bl.su e).2
      omega
    · refine ⟨(delW_B f [id] n i).2.2.1.trans (hg i hi).1, ?_⟩
      unfold delW
      rw [if_pos hi]
      exact (hg i hi).2
    · rw [(delW_B f [id] n i).2.2.2]
      omega
  cases ho : ownO f n id with
  | none =>
    have hno := ownO_none.1 ho
    refine ⟨false, f, (rbdel_not h.rb hn hl ho).mono fun _ _ ⟨he, hc⟩ => ⟨m, he, h.quiet hc, hc⟩, fun w1 wb m' o cp k1 hb hz => ?_⟩
    have H := hdel o cp (fun i hi => ⟨rfl, less_no (hno i hi)⟩) k1 hb hz
    rw [sumQ_zero n (fun i hi => by rw [less_no (hno i hi)]; omega)] at H
    exact H
  | some b =>
    obtain ⟨hbn, t, ht, rfl⟩ := ownO_some ho
    have hnd := (h.bl.wi hbn).nd
    obtain ⟨P, R, e, hA, hls⟩ := split_id hnd ht
    have hoth : ∀ i, i < n → i ≠ b → ∀ u ∈ (f i).L, u.id ≠ t.id := fun i hi hne u hu => h.bl.one i b hi hbn hne u hu t ht
    have hlen := less_length hnd ht
    refine ⟨true, updW f b { f b with L := less (f b).L t.id }, (rbdel_in h.rb h.bl.bel.size hn hl hbn ho (fun W v hW hv => ?_)).mono fun _ _ ⟨m', he, hrb, hc⟩ => ⟨m', he, h.pend hc hrb, hc⟩, fun w1 wb m' o cp k1 hb hz => ?_⟩
    · rw [hls]
      have hrv : RT W w0.heap.size v (P ++ t :: R) := e ▸ hv
      exact (rdel_in hrv (Nat.le_trans h.bl.bel.size hW.size) (e ▸ hl b hbn) hA _).mono fun _ _ ⟨v', he, hr', hc⟩ => ⟨v', he, hr'.mono (Nat.le_trans h.bl.bel.size hW.size), .inr fun g hg => (World.ownsRow.lt hr' g hg).1, hc⟩
    · have H := hdel o cp (fun i hi => ?_) k1 hb hz
      · rw [sumQ_one n hbn (fun i hi hne => by rw [less_no (hoth i hi hne)]; omega), show (f b).L.length - (less (f b).L t.id).length = 1 by omega] at H
        exact H
      · by_cases e : i = b
        · subst e
          rw [updW_same]
          exact ⟨rfl, rfl⟩
        · rw [updW_other f _ e]
          exact ⟨rfl, less_no (hoth i hi e)⟩
theorem BP.catch_both (h : BP w0 w K n f m f A na c) (hT : Mk.Tab w0) (cpu : Int) {x : Int} (hx : Wd x) :
    ∃ (xs : List Int) (g : Nat → Wh), xs.length ≤ 256 ∧
      Calls Tryz.prog 12 #[m, .int .i64 cpu, .int .u64 x] w fun e w1 => ∃ m' r, e = .returned (.tuple #[m', r]) ∧ BP w0 w1 K n f m' g A na c ∧ w1.ownsRow w.heap.size 3 1 r xs.length (xs.map iv) ∧ Ch [] w w1 ∧
        ∀ wb : World, Ch [] w1 wb →
          Calls Tryz.prog 14 #[.pointer (some ⟨K, 0, none⟩), .int .i64 cpu, .int .u64 x] wb fun e w2 => ∃ r, e = .returned r ∧ w2.ownsRow wb.heap.size 3 1 r xs.length (xs.map iv) ∧
            (∃ f', BP w0 w2 K n f' m' f' A na c ∧ ∀ i, i < n → (f' i).puts ≤ (f i).puts + 1) ∧ ChP (fun k => k < w.heap.size) wb w2 := by
  have hn := h.bl.le
  by_cases hr : cpu < 0 ∨ (n : Int) ≤ cpu
  · refine ⟨[], f, by simp, (rbcatch_out h.rb hr x).mono fun _ _ ⟨he, e⟩ => ⟨m, _, he, e ▸ h, World.ownsRow_nil _ _ _ _, e ▸ Ch.refl [] _, fun wb hb => ?_⟩⟩
    subst e
    obtain ⟨G, cap, j1⟩ := (h.quiet hb).bl.bk
    exact (catch_out j1 hr x).mono fun _ _ ⟨he, hc⟩ => ⟨_, he, World.ownsRow_nil _ _ _ _, ⟨f, (h.quiet hb).quiet hc, fun i _ => by omega⟩, .quiet hc⟩
  obtain ⟨cn, rfl⟩ : ∃ cn : Nat, cpu = (cn : Int) := ⟨cpu.toNat, by omega⟩
  have hcn : cn < n := by omega
  have hwi := h.bl.wi hcn
  have prog : ∀ {w1 wb : World} {m' : Value}, Ch [] w w1 → BP w0 w1 K n f m' (updW f cn { f cn with now := max (f cn).now x, L := later (f cn).L x }) A na c → Ch [] w1 wb →
      Calls Tryz.prog 14 #[.pointer (some ⟨K, 0, none⟩), .int .i64 (cn : Int), .int .u64 x] wb fun e w2 => ∃ r, e = .returned r ∧ w2.ownsRow wb.heap.size 3 1 r (outs (f cn).L x).length ((outs (f cn).L x).map iv) ∧
            (∃ f', BP w0 w2 K n f' m' f' A na c ∧ ∀ i, i < n → (f' i).puts ≤ (f i).puts + 1) ∧ ChP (fun k => k < w.heap.size) wb w2 := by
    intro w1 wb m' hq k1 hb
    obtain ⟨G, cap, j1⟩ := (k1.quiet hb).bl.bk
    refine (catch_in j1 ((k1.quiet hb).bl.tab hT) hcn hx).mono fun e w2 ⟨r, he, hr', hb', hc⟩ => ⟨r, he, hr', ⟨_, ((k1.quiet hb).step hb' (hc.mono fun k hk => ⟨cn, hcn, hk⟩) (fun k hk => ?_)).settle (fun i hi => ⟨rfl, rfl⟩), fun i hi => ?_⟩, hc.mono fun k hk => (h.bl.su ⟨cn, hcn, hk⟩).2⟩
    · obtain ⟨i, hi, hk⟩ := hk
      unfold catchW at hk
      by_cases e : i = cn
      · subst e
        rw [updW_same] at hk
        exact .inl ⟨i, hi, hk⟩
      · rw [updW_other f _ e] at hk
        exact .inl ⟨i, hi, hk⟩
    · unfold catchW
      by_cases e : i = cn
      · subst e
        rw [updW_same]
        exact Nat.le_succ _
      · rw [updW_other f _ e]
        omega
  refine ⟨outs (f cn).L x, updW f cn { f cn with now := max (f cn).now x, L := later (f cn).L x }, ?_, (rbcatch_in h.rb h.bl.bel.size hn hcn x (now' := max (f cn).now x) (L' := later (f cn).L x) (xs := outs (f cn).L x) (fun v hv => ?_)).mono fun _ _ ⟨m', r, he, hrb, hr', hc⟩ => ⟨m', r, he, h.pend hc hrb, hr', hc, fun wb hb => prog hc (h.pend hc hrb) hb⟩⟩
  · have := hwi.len
    have := List.length_filter_le (fun t => decide (t.sp.due ≤ x)) (f cn).L
    unfold outs upto
    rw [List.length_map, DL_length]
    omega
  · rcases Int.lt_or_le (f cn).now x with hlt | hle
    · rw [show max (f cn).now x = x by omega]
      exact (rto_any hv h.bl.bel.size hwi.len hwi.rise hwi.nd hlt).mono fun _ _ ⟨v', u, he, hr', hv', hu, hc⟩ => ⟨v', u, he, hr', hv', hu, hc⟩
    · rw [show max (f cn).now x = (f cn).now by omega, later_all (fun t ht => by have := (hwi.fits t ht).ahead; omega), outs_nil (fun t ht => by have := (hwi.fits t ht).ahead; omega)]
      exact (rto_less hv hle).mono fun _ _ ⟨he, hc⟩ => ⟨v, _, he, hv.quiet hc, .inl rfl, World.ownsRow_nil _ _ _ _, hc⟩
/-- What the bank and the answer tell of a number. -/
theorem own_look (h : BL w0 w K n f) (id : Int) : (fR f n id = -1 ∧ ((ownC f n id : Nat) : Int) = 0 ∧ ownB f n id = false ∧ ownS f n id = sp0) ∨
    ∃ (b j : Nat) (x : Tm), b < n ∧ fR f n id = (b : Int) ∧ ownC f n id = b ∧ ownB f n id = true ∧ ixOf (f b).L id = (j : Int) ∧ j < (f b).L.length ∧ (f b).L[j]? = some x ∧ ownS f n id = x.sp := by
  unfold fR ownC ownB ownS
  cases ho : ownO f n id with
  | none => exact .inl ⟨rfl, rfl, rfl, rfl⟩
  | some b =>
    obtain ⟨hbn, t, ht, rfl⟩ := ownO_some ho
    obtain ⟨P, R, e, hA, -⟩ := split_id (h.wi hbn).nd ht
    have hf : (f b).L.find? (fun u => decide (u.id = t.id)) = some t := by
      rw [e, List.find?_append, List.find?_eq_none.2 (fun u hu => by simpa using hA u hu)]
      simp
    refine .inr ⟨b, P.length, t, hbn, rfl, rfl, rfl, by rw [e]; exact ixOf_in hA, by rw [e]; simp, by rw [e]; simp, ?_⟩
    show findS (f b).L t.id = t.sp
    unfold findS
    rw [hf]
end
end Go.Proofs.YtnndofeomakpiaaGreatDoor

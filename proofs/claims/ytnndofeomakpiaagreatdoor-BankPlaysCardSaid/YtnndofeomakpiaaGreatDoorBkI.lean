/-
  Put.
-/
import Derived.Test.YtnndofeomakpiaaGreatDoorBkF
namespace Go.Proofs.YtnndofeomakpiaaGreatDoor
open Go.RowKit Go.Maps

attribute [local go_sem] Oper.semAt_some

theorem set_four {W : World} {b : Nat} {x y z t : Value} (h : BoxN W b [x, y, z, t]) (x' y' z' t' : Value) :
    BoxN ((((W.setCell ⟨b, 0, none⟩ x').setCell ⟨b, 1, none⟩ y').setCell ⟨b, 2, none⟩ z').setCell ⟨b, 3, none⟩ t') b [x', y', z', t'] ∧
    ChP (fun k => k = b) W ((((W.setCell ⟨b, 0, none⟩ x').setCell ⟨b, 1, none⟩ y').setCell ⟨b, 2, none⟩ z').setCell ⟨b, 3, none⟩ t') :=
  ⟨(((h.setAt 0 (by simp) x').setAt 1 (by simp) y').setAt 2 (by simp) z').setAt 3 (by simp) t', (((((ChP.refl _ W).setCell (S := fun k => k = b) (.inl rfl) x').setCell (.inl rfl) y').setCell (.inl rfl) z').setCell (.inl rfl) t')⟩
theorem bput_nil (cpu id at' : Int) (w : World) :
    Calls Tryz.prog 8 #[.pointer none, .int .i64 cpu, .int .i64 id, .int .u64 at'] w fun e w' => e = .returned (.tuple #[spz, .int .i64 6]) ∧ Ch [] w w' := by
  obtain ⟨k0, k1, k2, k3⟩ := four_spz w
  go_enter Tryz.func8, Tryz.ntmps8
  go_wp2
  refine bodyPost_ret (v := .tuple #[.agg #[.int .i64 0, .int .i64 0, .int .u64 0, .int .u64 0], .int .i64 6]) ?_ rfl ?_
  · simp [results, Tryz.f8, go_sem, k0, k1, k2, k3]
  · exact ⟨rfl, (Ch.refl [] w).alloc _⟩
section
variable {w : World} {base K G cap n : Nat} {f : Nat → Wh}
theorem bput_out (h : BK w base K G cap n f) {cpu : Int} (hi : cpu < 0 ∨ (n : Int) ≤ cpu) (id at' : Int) :
    Calls Tryz.prog 8 #[.pointer (some ⟨K, 0, none⟩), .int .i64 cpu, .int .i64 id, .int .u64 at'] w fun e w' => e = .returned (.tuple #[spz, .int .i64 2]) ∧ Ch [] w w' := by
  obtain ⟨k0, k1, k2, k3⟩ := four_spz w
  have hal := (Ch.refl [] w).alloc (.cells #[.int .i64 0, .int .i64 0, .int .u64 0, .int .u64 0] 40)
  have HA := Lib.hid (at_out (h.quiet hal) hi)
  clear h hi hal
  go_enter Tryz.func8, Tryz.ntmps8
  go_wp2_with fail
  with_reducible refine HA.out.mono ?_
  rintro e w1 ⟨rfl, rfl⟩
  go_wp2
  refine bodyPost_ret (v := .tuple #[.agg #[.int .i64 0, .int .i64 0, .int .u64 0, .int .u64 0], .int .i64 2]) ?_ rfl ?_
  · simp [results, Tryz.f8, go_sem, k0, k1, k2, k3]
  · exact ⟨rfl, (Ch.refl [] w).alloc _⟩
theorem bput_twice (h : BK w base K G cap n f) {c : Nat} (hc : c < n) {id : Int} (hk : wf64 id) (ho : ownB f n id = true) (at' : Int) :
    Calls Tryz.prog 8 #[.pointer (some ⟨K, 0, none⟩), .int .i64 (c : Int), .int .i64 id, .int .u64 at'] w fun e w' => e = .returned (.tuple #[spz, .int .i64 5]) ∧ Ch [] w w' := by
  have hal := (Ch.refl [] w).alloc (.cells #[.int .i64 0, .int .i64 0, .int .u64 0, .int .u64 0] 40)
  have HB := Lib.hid (BoxN.new w [.int .i64 0, .int .i64 0, .int .u64 0, .int .u64 0] 40)
  have HA := Lib.hid (at_in (h.quiet hal) hc)
  have HF := Lib.hid (bfind_any (h.quiet hal).bo hk)
  obtain ⟨x, hx⟩ : ∃ x, x = ownC f n id := ⟨_, rfl⟩
  obtain ⟨sp, hsp⟩ : ∃ s, s = ownS f n id := ⟨_, rfl⟩
  rw [← hx, ← hsp, ho] at HF
  obtain ⟨lv, sl, at2, due⟩ := sp
  have HL := Lib.hid hal
  clear h hc hk ho hal hx hsp
  go_enter Tryz.func8, Tryz.ntmps8
  go_wp2_with fail
  with_reducible refine HA.out.mono ?_
  rintro e w1 ⟨rfl, rfl⟩
  go_wp2_with fail
  with_reducible refine HF.out.mono ?_
  rintro e w2 ⟨rfl, hc2⟩
  unfold spV
  have hb := (BoxN.quiet HB.out hc2).quiet ((Ch.refl [] w2).alloc (.cells #[.int .i64 (lv : Int), .int .i64 sl, .int .u64 at2, .int .u64 due] 40))
  have HC := Lib.hid ((HL.out.trans hc2).trans ((Ch.refl [] w2).alloc (.cells #[.int .i64 (lv : Int), .int .i64 sl, .int .u64 at2, .int .u64 due] 40)))
  obtain ⟨p0, q0⟩ := hb 0 _ rfl
  obtain ⟨p1, q1⟩ := hb 1 _ rfl
  obtain ⟨p2, q2⟩ := hb 2 _ rfl
  obtain ⟨p3, q3⟩ := hb 3 _ rfl
  have HB2 := Lib.hid hb
  clear hc2 hb
  go_frame
  go_wp2_with fail
  obtain ⟨k1, k2⟩ := set_four HB2.out (.int .i64 0) (.int .i64 0) (.int .u64 0) (.int .u64 0)
  have m0 := (k1 0 _ rfl).1
  have m1 := (k1 1 _ rfl).1
  have m2 := (k1 2 _ rfl).1
  have m3 := (k1 3 _ rfl).1
  refine bodyPost_ret (v := .tuple #[.agg #[.int .i64 0, .int .i64 0, .int .u64 0, .int .u64 0], .int .i64 5]) ?_ rfl ?_
  · simp [results, Tryz.f8, go_sem, m0, m1, m2, m3]
  · exact ⟨rfl, ((ChP.quiet (S := fun _ => False) HC.out).fresh k2 (fun k e => .inr (by omega))).ch (fun _ h => h)⟩
theorem bput_rest (h : BK w base K G cap n f) {c : Nat} (hc : c < n) {id : Int} (hk : wf64 id) (ho : ownB f n id = false) (at' : Int) {s : Sp} {E : Int} {R : World → World → Prop}
    (hP : ∀ W, Ch [] w W → Calls Tryz.prog 28 #[.pointer (some ⟨(f c).B, 0, none⟩), .int .i64 id, .int .u64 at'] W fun e W' => e = .returned (.tuple #[spV s, .int .i64 E]) ∧ R W W' ∧ ChP (f c).S W W') :
    Calls Tryz.prog 8 #[.pointer (some ⟨K, 0, none⟩), .int .i64 (c : Int), .int .i64 id, .int .u64 at'] w fun e w' => e = .returned (.tuple #[spV s, .int .i64 E]) ∧
      ∃ W W1, Ch [] w W ∧ w.heap.size < W.heap.size ∧ R W W1 ∧ ChP (f c).S W W1 ∧ ChP (fun k => k = w.heap.size) W1 w' := by
  have hal := (Ch.refl [] w).alloc (.cells #[.int .i64 0, .int .i64 0, .int .u64 0, .int .u64 0] 40)
  have hnS : ¬ (f c).S w.heap.size := fun e => by have := (h.wh c hc).hi _ e; omega
  have HB := Lib.hid (BoxN.new w [.int .i64 0, .int .i64 0, .int .u64 0, .int .u64 0] 40)
  have HA := Lib.hid (at_in (h.quiet hal) hc)
  have HF := Lib.hid (bfind_any (h.quiet hal).bo hk)
  obtain ⟨x, hx⟩ : ∃ x, x = ownC f n id := ⟨_, rfl⟩
  obtain ⟨sp, hsp⟩ : ∃ s, s = ownS f n id := ⟨_, rfl⟩
  rw [← hx, ← hsp, ho] at HF
  obtain ⟨lv, sl, at2, due⟩ := sp
  have HL := Lib.hid hal
  have HP := Lib.hid hP
  have HS := Lib.hid hnS
  clear h hc hk ho hal hx hsp hP hnS
  obtain ⟨slv, ssl, sat, sdue⟩ := s
  unfold spV at HP ⊢
  go_enter Tryz.func8, Tryz.ntmps8
  go_wp2_with fail
  with_reducible refine HA.out.mono ?_
  rintro e w1 ⟨rfl, rfl⟩
  go_wp2_with fail
  with_reducible refine HF.out.mono ?_
  rintro e w2 ⟨rfl, hc2⟩
  unfold spV
  have hb := (BoxN.quiet HB.out hc2).quiet ((Ch.refl [] w2).alloc (.cells #[.int .i64 (lv : Int), .int .i64 sl, .int .u64 at2, .int .u64 due] 40))
  have hC := (HL.out.trans hc2).trans ((Ch.refl [] w2).alloc (.cells #[.int .i64 (lv : Int), .int .i64 sl, .int .u64 at2, .int .u64 due] 40))
  have hsz : w.heap.size < (w2.alloc (.cells #[.int .i64 (lv : Int), .int .i64 sl, .int .u64 at2, .int .u64 due] 40)).heap.size := by
    have := hc2.size
    simp at this ⊢
    omega
  have HSz := Lib.hid hsz
  have HC := Lib.hid hC
  have HB2 := Lib.hid hb
  have HPW := Lib.hid (HP.out _ hC)
  clear hc2 hb hC hsz
  go_frame
  go_wp2_with fail
  with_reducible refine HPW.out.mono ?_
  rintro e w3 ⟨rfl, hR, hcS⟩
  have hb := HB2.out.chP hcS HS.out
  obtain ⟨p0, q0⟩ := hb 0 _ rfl
  obtain ⟨p1, q1⟩ := hb 1 _ rfl
  obtain ⟨p2, q2⟩ := hb 2 _ rfl
  obtain ⟨p3, q3⟩ := hb 3 _ rfl
  have HB3 := Lib.hid hb
  have HR := Lib.hid hR
  have HCS := Lib.hid hcS
  clear hb hR hcS
  go_frame
  go_wp2_with fail
  obtain ⟨k1, k2⟩ := set_four HB3.out (.int .i64 (slv : Int)) (.int .i64 ssl) (.int .u64 sat) (.int .u64 sdue)
  have m0 := (k1 0 _ rfl).1
  have m1 := (k1 1 _ rfl).1
  have m2 := (k1 2 _ rfl).1
  have m3 := (k1 3 _ rfl).1
  refine bodyPost_ret (v := .tuple #[.agg #[.int .i64 (slv : Int), .int .i64 ssl, .int .u64 sat, .int .u64 sdue], .int .i64 E]) ?_ rfl ?_
  · simp [results, Tryz.f8, go_sem, m0, m1, m2, m3]
  · exact ⟨rfl, _, _, HC.out, HSz.out, HR.out, HCS.out, k2⟩
theorem ownB_false {id : Int} (h : ∀ i, i < n → ∀ t ∈ (f i).L, t.id ≠ id) : ownB f n id = false := by
  unfold ownB
  rw [ownO_none.2 h]
  rfl
theorem bput_ok (h : BK w base K G cap n f) {c : Nat} (hc : c < n) {id : Int} (h0 : 0 ≤ id) (h1 : id < 256) (ho : ownB f n id = false) {at' : Int} (ha : Wd at') (hm : (f c).now ≠ 18446744073709551615) (hp : (f c).puts < 4611686018427387904) :
    Calls Tryz.prog 8 #[.pointer (some ⟨K, 0, none⟩), .int .i64 (c : Int), .int .i64 id, .int .u64 at'] w fun e w' => e = .returned (.tuple #[spV (placeV (f c).now at'), .int .i64 0]) ∧
      ∃ S', BK w' base K G cap n (updW f c { f c with S := S', puts := (f c).puts + 1, L := (f c).L ++ [⟨id, placeV (f c).now at', (f c).puts⟩] }) ∧ (∀ k, S' k → (f c).S k ∨ w.heap.size ≤ k) ∧ ChP (f c).S w w' := by
  have hno : ∀ i, i < n → ∀ t ∈ (f i).L, t.id ≠ id := by
    refine ownO_none.1 ?_
    unfold ownB at ho
    simpa using ho
  refine (bput_rest h hc (wf_small h0 h1) ho at' (R := fun W W' => ∃ S', BK W' base K G cap n (updW f c { f c with S := S', puts := (f c).puts + 1, L := (f c).L ++ [⟨id, placeV (f c).now at', (f c).puts⟩] }) ∧ ∀ k, S' k → (f c).S k ∨ W.heap.size ≤ k)
    (fun W hW => (put_ok ((h.quiet hW).wh c hc) h0 h1 (hno c hc) ha hm hp).mono fun _ _ ⟨he, hw', hch⟩ => ⟨he, ⟨_, (h.quiet hW).upd hc hw' rfl hch (fun k hk => hk.elim .inl (fun hk => .inr hk.1)) (fun t ht => ?_), fun k hk => hk.elim .inl (fun hk => .inr hk.1)⟩, hch⟩)).mono ?_
  · rcases List.mem_append.1 ht with ht | ht
    · exact .inl ⟨t, ht, rfl⟩
    · obtain rfl : t = ⟨id, placeV (f c).now at', (f c).puts⟩ := by simpa using ht
      exact .inr fun j hj _ u hu => hno j hj u hu
  · rintro e w' ⟨he, W, W1, hq, hsz, ⟨S', hb, hS⟩, hch, hst⟩
    have hK := h.ltK
    have hG := h.ltG
    refine ⟨he, S', hb.frame hst (fun e => by omega) (fun e => by omega) (fun k ⟨i, hi, hk⟩ e => ?_), fun k hk => (hS k hk).elim .inl (fun h => .inr (Nat.le_trans (Nat.le_of_lt hsz) h)), ((ChP.quiet hq).trans hch).fresh hst (fun k e => .inr (by omega))⟩
    subst e
    by_cases e : i = c
    · subst e
      rw [updW_same] at hk
      rcases hS _ hk with h3 | h3
      · have := (h.wh i hi).hi _ h3; omega
      · omega
    · rw [updW_other f _ e] at hk
      have := (h.wh i hi).hi _ hk
      omega
theorem bput_max (h : BK w base K G cap n f) {c : Nat} (hc : c < n) {id : Int} (h0 : 0 ≤ id) (h1 : id < 256) (ho : ownB f n id = false) (at' : Int) (hm : (f c).now = 18446744073709551615) :
    Calls Tryz.prog 8 #[.pointer (some ⟨K, 0, none⟩), .int .i64 (c : Int), .int .i64 id, .int .u64 at'] w fun e w' => e = .returned (.tuple #[spz, .int .i64 12]) ∧ Ch [] w w' := by
  have hno : ∀ i, i < n → ∀ t ∈ (f i).L, t.id ≠ id := by
    refine ownO_none.1 ?_
    unfold ownB at ho
    simpa using ho
  refine (bput_rest h hc (wf_small h0 h1) ho at' (s := sp0) (E := 12) (R := fun W W' => Ch [] W W')
    (fun W hW => (put_max (hm ▸ (h.quiet hW).wh c hc) h0 h1 (hno c hc) at').mono fun _ _ ⟨he, hch⟩ => ⟨he, hch, .quiet hch⟩)).mono ?_
  rintro e w' ⟨he, W, W1, hq, hsz, hr, _, hst⟩
  exact ⟨he, ((ChP.quiet (S := fun _ => False) (hq.trans hr)).fresh hst (fun k e => .inr (by omega))).ch (fun _ h => h)⟩
theorem bput_range (h : BK w base K G cap n f) {c : Nat} (hc : c < n) {id : Int} (hk : wf64 id) (hr : id < 0 ∨ 256 ≤ id) (at' : Int) :
    Calls Tryz.prog 8 #[.pointer (some ⟨K, 0, none⟩), .int .i64 (c : Int), .int .i64 id, .int .u64 at'] w fun e w' => e = .returned (.tuple #[spz, .int .i64 2]) ∧ Ch [] w w' := by
  have ho : ownB f n id = false := ownB_false fun i hi t ht e => by have := (h.wh i hi).wi.ids t ht; omega
  refine (bput_rest h hc hk ho at' (s := sp0) (E := 2) (R := fun W W' => Ch [] W W')
    (fun W _ => (put_range hr at' W).mono fun _ _ ⟨he, hch⟩ => ⟨he, hch, .quiet hch⟩)).mono ?_
  rintro e w' ⟨he, W, W1, hq, hsz, hr, _, hst⟩
  exact ⟨he, ((ChP.quiet (S := fun _ => False) (hq.trans hr)).fresh hst (fun k e => .inr (by omega))).ch (fun _ h => h)⟩
end
end Go.Proofs.YtnndofeomakpiaaGreatDoor

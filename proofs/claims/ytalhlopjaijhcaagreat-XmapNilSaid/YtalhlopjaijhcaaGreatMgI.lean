/-
  Several texts in one: A map: linking an element. · A map: another element in the place of a linked one; what speaks against one more. · A map: one more element.
-/
import Derived.Test.YtalhlopjaijhcaaGreatMgH
namespace Go.Proofs.YtalhlopjaijhcaaGreat
open Go.RowKit

attribute [local go_sem] Oper.semAt_some

section
variable {w : World} {b : Bk} {s : MS} {N : Nat} {tb : List (Ent (Int × Int))} {us : List Nat}
theorem BxE.hb {w : World} {B : Nat} {x : El} (h : HB w B 84 (aE.elC x)) : aE.BxE w B x := ⟨h.c 0 rfl, h.c 1 rfl, h.c 2 rfl, h.c 3 rfl, h.c 4 rfl, h.f⟩

set_option maxRecDepth 100000 in
set_option maxHeartbeats 4000000 in
theorem link_any (h : XP w b s N tb us) (x : El) (hk : oU.wfK x.k) (hno : x.k ∉ ksE tb) (hr : tb.length < s.n) (hin : s.kind = 2 → x.k ∈ us ∨ us.length < s.n) (hn : N + 1 ≤ 9223372036854775807) :
    Calls Tryz.prog 38 #[mp b, elV x] w fun e w' => e = .returned (hdV (newH s)) ∧ XP w' b { s with xs := putL s.xs x } (N + 1) (⟨x.k, newH s⟩ :: tb) (useL s.kind us x.k) ∧ Xn b w w' := by
  obtain ⟨w0, hw0⟩ : ∃ w0, w0 = w.alloc (.cells (aE.elC x) 84) := ⟨_, rfl⟩
  obtain ⟨w1, hw1⟩ : ∃ w1, w1 = w0.alloc (.cells #[.int .i64 0, .int .i64 0] 39) := ⟨_, rfl⟩
  have s0 : w0.heap.size = w.heap.size + 1 := by rw [hw0]; simp
  have hc1 : Ch [] w w1 := by rw [hw1, hw0]; exact ((Ch.refl [] w).alloc _).alloc _
  have h1 := h.quiet hc1
  have HC1 := Lib.hid hc1
  have H1 := Lib.hid h1
  have HE1 := Lib.hid (show HB w1 w.heap.size 84 (aE.elC x) by rw [hw1, hw0]; exact (HB.new w _ _).alloc _)
  have HR1 := Lib.hid (show HB w1 (w.heap.size + 1) 39 #[.int .i64 0, .int .i64 0] by rw [hw1, ← s0]; exact HB.new w0 _ _)
  have HEh := Lib.hid h.eh
  have HW := Lib.hid (And.intro hw0 hw1)
  have HIn := Lib.hid hin
  have HNo := Lib.hid hno
  have HRm := Lib.hid hr
  have HSz := Lib.hid (show w1.heap.size = w.heap.size + 2 by rw [hw1]; simp [s0])
  obtain ⟨⟨p, q⟩, hpq⟩ : ∃ y, y = newH s := ⟨_, rfl⟩
  rw [← hpq]
  have HPQ := Lib.hid hpq
  have HPut := Lib.hid (fun W (hW : Ch [] w1 W) => (show Calls Tryz.prog 70 #[.pointer (some ⟨b.Ra, 0, none⟩), elV x] W fun e W' => e = .returned (.tuple #[.agg #[.int .i64 p, .int .i64 q], .int .i64 (putErr s.xs)]) ∧ aE.AC W' b.Ra b.Ga (putL s.xs x) ∧ Ch [b.Ga] W W' from by
    have := aE.put_any (h1.quiet hW).ar x
    rw [show putS s.xs = p from (congrArg Prod.fst hpq).symm, show putG s.xs = q from (congrArg Prod.snd hpq).symm] at this
    exact this))
  clear h h1 hc1 hw0 hw1 s0 hin hno hr hpq
  obtain ⟨E0, hE0⟩ : ∃ E0, E0 = putErr s.xs := ⟨_, rfl⟩
  rw [← hE0] at HPut
  clear hE0
  go_enter Tryz.func38, Tryz.ntmps38
  go_wp2_with fail
  have e9 := HW.out.2
  rw [HW.out.1] at e9
  rw [← e9]
  clear e9
  refine wp_mono (Q := fun e a' wq => e = .normal ∧ ∃ X5, b.Eh ≤ X5 ∧ w.heap.size + 1 < X5 ∧ a' = { tmps := #[mp b, elV x, undef, .pointer (some ⟨w.heap.size, 0, none⟩), .pointer (some ⟨w.heap.size + 1, 0, none⟩), .pointer (some ⟨X5, 0, none⟩), .int .i64 E0, .tuple #[.agg #[.int .i64 p, .int .i64 q], .int .i64 E0], mp b, mp b, .pointer (some ⟨b.X, 4, none⟩), .pointer (some ⟨b.Ra, 0, none⟩), elV x, .tuple #[.agg #[.int .i64 p, .int .i64 q], .int .i64 E0], .agg #[.int .i64 p, .int .i64 q], .int .i64 E0, undef, undef, undef, undef, undef, undef, undef, undef, undef, undef, undef, undef, undef, undef, undef, undef, undef], defers := [] } ∧ HB wq X5 39 #[.int .i64 p, .int .i64 q] ∧ HB wq w.heap.size 84 (aE.elC x) ∧ HB wq (w.heap.size + 1) 39 #[.int .i64 0, .int .i64 0] ∧ XP wq b { s with xs := putL s.xs x } N tb us ∧ Xn b w wq) ?reg ?post
  case reg =>
    have hbE := BxE.hb HE1.out
    have c4 := H1.out.cells.2.2.2.2.1
    refine wp_region_held_drew (S := fun w' => w'.cell? ⟨b.X, 4, none⟩ = some (.pointer (some ⟨b.Ra, 0, none⟩)) ∧ w'.cell? ⟨w.heap.size, 0, none⟩ = some (.int .u64 (x.k : Int)) ∧ w'.cell? ⟨w.heap.size, 1, none⟩ = some (.int .u64 (x.v 0 : Int)) ∧ w'.cell? ⟨w.heap.size, 2, none⟩ = some (.int .u64 (x.v 1 : Int)) ∧ w'.cell? ⟨w.heap.size, 3, none⟩ = some (.int .u64 (x.v 2 : Int)) ∧ w'.cell? ⟨w.heap.size, 4, none⟩ = some (.int .u64 (x.v 3 : Int))) (by kernel_rfl) ⟨c4, hbE.b0, hbE.b1, hbE.b2, hbE.b3, hbE.b4⟩ (fun hHeld => ?_)
    refine wpAnyH_take (i := 0) (oi := { dst := some 8, op := _, type := _, pos := _, after := _, guard := _ }) (v := ?v1_0) rfl (by kernel_rfl) (by kernel_rfl) (by kernel_rfl) (by intro _ _ _ h; first | exact h | exact nomatch h.1) (.inl ⟨by rfl, ?h1_0⟩) (by assumption) ?_
    case h1_0 => intro w hSw; obtain ⟨hs0, hs1, hs2, hs3, hs4, hs5⟩ := hSw; go_simp; (try with_reducible rfl)
    try simp only [Act.put, List.setIfInBounds_toArray, List.set_cons_zero, List.set_cons_succ]
    refine wpAnyH_take (i := 1) (oi := { dst := some 9, op := _, type := _, pos := _, after := _, guard := _ }) (v := ?v2_1) rfl (by kernel_rfl) (by kernel_rfl) (by kernel_rfl) (by intro _ _ _ h; first | exact h | exact nomatch h.1) (.inl ⟨by rfl, ?h2_1⟩) (by assumption) ?_
    case h2_1 => intro w hSw; obtain ⟨hs0, hs1, hs2, hs3, hs4, hs5⟩ := hSw; go_simp; (try with_reducible rfl)
    try simp only [Act.put, List.setIfInBounds_toArray, List.set_cons_zero, List.set_cons_succ]
    refine wpAnyH_take (i := 2) (oi := { dst := some 10, op := _, type := _, pos := _, after := _, guard := _ }) (v := ?v3_2) rfl (by kernel_rfl) (by kernel_rfl) (by kernel_rfl) (by intro _ _ _ h; first | exact h | exact nomatch h.1) (.inl ⟨by rfl, ?h3_2⟩) (by assumption) ?_
    case h3_2 => intro w hSw; obtain ⟨hs0, hs1, hs2, hs3, hs4, hs5⟩ := hSw; go_simp; (try with_reducible rfl)
    try simp only [Act.put, List.setIfInBounds_toArray, List.set_cons_zero, List.set_cons_succ]
    refine wpAnyH_take (i := 3) (oi := { dst := some 11, op := _, type := _, pos := _, after := _, guard := _ }) (v := ?v4_3) rfl (by kernel_rfl) (by kernel_rfl) (by kernel_rfl) (by intro _ _ _ h; first | exact h | exact nomatch h.1) (.inl ⟨by rfl, ?h4_3⟩) (by assumption) ?_
    case h4_3 => intro w hSw; obtain ⟨hs0, hs1, hs2, hs3, hs4, hs5⟩ := hSw; go_simp; (try with_reducible rfl)
    try simp only [Act.put, List.setIfInBounds_toArray, List.set_cons_zero, List.set_cons_succ]
    refine wpAnyH_take (i := 4) (oi := { dst := some 12, op := _, type := _, pos := _, after := _, guard := _ }) (v := ?v5_4) rfl (by kernel_rfl) (by kernel_rfl) (by kernel_rfl) (by intro _ _ _ h; first | exact h | exact nomatch h.1) (.inl ⟨by rfl, ?h5_4⟩) (by assumption) ?_
    case h5_4 => intro w hSw; obtain ⟨hs0, hs1, hs2, hs3, hs4, hs5⟩ := hSw; go_simp; (try with_reducible rfl)
    try simp only [Act.put, List.setIfInBounds_toArray, List.set_cons_zero, List.set_cons_succ]
    clear hbE c4
    have HGe := Lib.hid (show b.Ga < b.Eh by have l := H1.out.lay; have := l.gr; have := l.rs; have := l.sr; have := l.re; omega)
    refine wpAnyH_ready (rs := [5, 9]) (by kernel_rfl) (by simp) ?_
    refine AllReadyH.cons (o := { dst := some 13, op := _, type := _, pos := _, after := _, guard := _ }) rfl (fun K hK => ?_) (AllReadyH.cons (o := { dst := some 5, op := _, type := _, pos := _, after := _, guard := _ }) rfl (fun K hK => ?_) AllReadyH.nil)
    · have hd : Ch [] w1 w1.drew := (Ch.refl [] w1).drew
      go_simp
      with_reducible refine (HPut.out _ hd).mono ?_; rintro r w2 ⟨rfl, hA2, hc2⟩; have HP2 := Lib.hid ((H1.out.quiet hd).arena hc2 hA2); have hE2 := HE1.out.ch ((hd.mono (T := [b.Ga]) (by simp)).trans hc2) (by have := HGe.out; have := HEh.out; simp; omega); have HR2 := Lib.hid (HR1.out.ch ((hd.mono (T := [b.Ga]) (by simp)).trans hc2) (by have := HGe.out; have := HEh.out; simp; omega)); have HE2 := Lib.hid hE2; have HX2 := Lib.hid (((Xn.of_ch (b := b) hd)).trans HP2.out.2); have hbE := BxE.hb hE2; have e4 : w2.cell? ⟨b.X, 4, none⟩ = some (.pointer (some ⟨b.Ra, 0, none⟩)) := HP2.out.1.cells.2.2.2.2.1; clear hA2 hc2 hE2
      refine hK.out _ _ ⟨e4, hbE.b0, hbE.b1, hbE.b2, hbE.b3, hbE.b4⟩ (fun hHeld => ?_)
      clear hK K
      try simp only [Act.put, List.setIfInBounds_toArray, List.set_cons_zero, List.set_cons_succ]
      clear e4 hbE hd
      refine wpAnyH_take (i := 6) (oi := { dst := some 7, op := _, type := _, pos := _, after := _, guard := _ }) (v := ?v6_6) rfl (by kernel_rfl) (by kernel_rfl) (by kernel_rfl) (by intro _ _ _ h; first | exact h | exact nomatch h.1) (.inl ⟨by rfl, ?h6_6⟩) (by assumption) ?_
      case h6_6 => intro w hSw; obtain ⟨hs0, hs1, hs2, hs3, hs4, hs5⟩ := hSw; go_simp; (try with_reducible rfl)
      try simp only [Act.put, List.setIfInBounds_toArray, List.set_cons_zero, List.set_cons_succ]
      refine wpAnyH_take (i := 7) (oi := { dst := some 14, op := _, type := _, pos := _, after := _, guard := _ }) (v := ?v7_7) rfl (by kernel_rfl) (by kernel_rfl) (by kernel_rfl) (by intro _ _ _ h; first | exact h | exact nomatch h.1) (.inl ⟨by rfl, ?h7_7⟩) (by assumption) ?_
      case h7_7 => intro w hSw; obtain ⟨hs0, hs1, hs2, hs3, hs4, hs5⟩ := hSw; go_simp; (try with_reducible rfl)
      try simp only [Act.put, List.setIfInBounds_toArray, List.set_cons_zero, List.set_cons_succ]
      refine wpAnyH_take (i := 8) (oi := { dst := some 15, op := _, type := _, pos := _, after := _, guard := _ }) (v := ?v8_8) rfl (by kernel_rfl) (by kernel_rfl) (by kernel_rfl) (by intro _ _ _ h; first | exact h | exact nomatch h.1) (.inl ⟨by rfl, ?h8_8⟩) (by assumption) ?_
      case h8_8 => intro w hSw; obtain ⟨hs0, hs1, hs2, hs3, hs4, hs5⟩ := hSw; go_simp; (try with_reducible rfl)
      try simp only [Act.put, List.setIfInBounds_toArray, List.set_cons_zero, List.set_cons_succ]
      obtain ⟨w3, hw3⟩ : ∃ w3, w3 = w2.alloc (.cells #[.int .i64 0, .int .i64 0] 39) := ⟨_, rfl⟩
      have hc3 : Ch [] w2 w3 := by rw [hw3]; exact (Ch.refl [] w2).alloc _
      have hN3 : HB w3 w2.heap.size 39 #[.int .i64 0, .int .i64 0] := by rw [hw3]; exact HB.new w2 _ _
      have HP3 := Lib.hid (HP2.out.1.quiet hc3)
      have HE3 := Lib.hid (HE2.out.ch hc3 (by simp))
      have HR3 := Lib.hid (HR2.out.ch hc3 (by simp))
      have HX3 := Lib.hid (HX2.out.trans (Xn.of_ch hc3))
      have HXe := Lib.hid (show b.Eh ≤ w2.heap.size ∧ w.heap.size + 1 < w2.heap.size from ⟨HP2.out.1.eh, HR2.out.lt⟩)
      have hbE := BxE.hb HE3.out
      have e4 : w3.cell? ⟨b.X, 4, none⟩ = some (.pointer (some ⟨b.Ra, 0, none⟩)) := HP3.out.cells.2.2.2.2.1
      have hheld : w3.cell? ⟨b.X, 4, none⟩ = some (.pointer (some ⟨b.Ra, 0, none⟩)) ∧ w3.cell? ⟨w.heap.size, 0, none⟩ = some (.int .u64 (x.k : Int)) ∧ w3.cell? ⟨w.heap.size, 1, none⟩ = some (.int .u64 (x.v 0 : Int)) ∧ w3.cell? ⟨w.heap.size, 2, none⟩ = some (.int .u64 (x.v 1 : Int)) ∧ w3.cell? ⟨w.heap.size, 3, none⟩ = some (.int .u64 (x.v 2 : Int)) ∧ w3.cell? ⟨w.heap.size, 4, none⟩ = some (.int .u64 (x.v 3 : Int)) := ⟨e4, hbE.b0, hbE.b1, hbE.b2, hbE.b3, hbE.b4⟩
      rw [hw3] at hheld
      refine wpAnyH_ready (rs := [9]) (by kernel_rfl) (by simp) ?_
      refine AllReadyH.cons (o := { dst := some 5, op := _, type := _, pos := _, after := _, guard := _ }) rfl (fun K hK => ?_) AllReadyH.nil
      go_simp
      refine hK.out _ _ hheld (fun hHeld => ?_)
      clear hK K
      try simp only [Act.put, List.setIfInBounds_toArray, List.set_cons_zero, List.set_cons_succ]
      rw [← hw3]
      obtain ⟨X5, hX5⟩ : ∃ X5, X5 = w2.heap.size := ⟨_, rfl⟩
      rw [← hX5] at hN3 HXe ⊢
      have g0 := hN3.c 0 rfl
      have g1 := setCell_other (u := Value.int .i64 p) (hN3.c 1 rfl) (addr_ne_off (g := X5) (a := 0) (b := 1) (by decide))
      have f0 := hN3.f 0
      have f1 := hN3.f 1
      have HN3 := Lib.hid hN3
      have hne : X5 ≠ b.X := by have := HXe.out.1; have l := HP3.out.lay; have := l.xg; have := l.gr; have := l.rs; have := l.sr; have := l.re; omega
      have hh4 := setCell_other (u := Value.int .i64 q) (setCell_other (u := Value.int .i64 p) e4 (addr_ne_block (g := X5) (a := 0) hne)) (addr_ne_block (g := X5) (a := 1) hne)
      have HB2 := Lib.hid (BxE.hb ((HE3.out.far (p := ⟨X5, 0, none⟩) (by have := HXe.out.2; show X5 ≠ w.heap.size; omega) (.int .i64 p)).far (p := ⟨X5, 1, none⟩) (by have := HXe.out.2; show X5 ≠ w.heap.size; omega) (.int .i64 q)))
      clear e4 hbE hheld hw3 hc3 hX5 hN3
      refine wpAnyH_ready (rs := [10]) (by kernel_rfl) (by simp) ?_
      refine AllReadyH.cons (o := { dst := none, op := _, type := _, pos := _, after := _, guard := _ }) rfl (fun K hK => ?_) AllReadyH.nil
      go_simp
      refine hK.out _ _ ⟨hh4, HB2.out.b0, HB2.out.b1, HB2.out.b2, HB2.out.b3, HB2.out.b4⟩ (fun hHeld => ?_)
      clear hK K
      try simp only [Act.put, List.setIfInBounds_toArray, List.set_cons_zero, List.set_cons_succ]
      refine wpAnyH_take (i := 11) (oi := { dst := some 6, op := _, type := _, pos := _, after := _, guard := _ }) (v := ?v9_11) rfl (by kernel_rfl) (by kernel_rfl) (by kernel_rfl) (by intro _ _ _ h; first | exact h | exact nomatch h.1) (.inl ⟨by rfl, ?h9_11⟩) (by assumption) ?_
      case h9_11 => intro w hSw; obtain ⟨hs0, hs1, hs2, hs3, hs4, hs5⟩ := hSw; go_simp; (try with_reducible rfl)
      try simp only [Act.put, List.setIfInBounds_toArray, List.set_cons_zero, List.set_cons_succ]
      refine wpAnyH_done (by kernel_rfl) ?_ _
      obtain ⟨hp, hb⟩ := HP3.out.ret HN3.out HXe.out.1 (.int .i64 p) (.int .i64 q)
      have hx5 := HXe.out.2
      exact ⟨rfl, X5, HXe.out.1, HXe.out.2, rfl, hb, (HE3.out.far (p := ⟨X5, 0, none⟩) (by show X5 ≠ w.heap.size; omega) _).far (p := ⟨X5, 1, none⟩) (by show X5 ≠ w.heap.size; omega) _, (HR3.out.far (p := ⟨X5, 0, none⟩) (by show X5 ≠ w.heap.size + 1; omega) _).far (p := ⟨X5, 1, none⟩) (by show X5 ≠ w.heap.size + 1; omega) _, hp,
        ((Xn.of_ch HC1.out).trans HX3.out).set (p := ⟨X5, 0, none⟩) (by show w.heap.size ≤ X5; omega) _ |>.set (p := ⟨X5, 1, none⟩) (by show w.heap.size ≤ X5; omega) _⟩
    · obtain ⟨w2, hw2⟩ : ∃ w2, w2 = (w1.alloc (.cells #[.int .i64 0, .int .i64 0] 39)).drew := ⟨_, rfl⟩
      have hc2 : Ch [] w1 w2 := by rw [hw2]; exact ((Ch.refl [] w1).alloc _).drew
      have hN2 : HB w2 w1.heap.size 39 #[.int .i64 0, .int .i64 0] := by rw [hw2]; exact HB.new w1 _ _
      have HP2 := Lib.hid (H1.out.quiet hc2)
      have HE2 := Lib.hid (HE1.out.ch hc2 (by simp))
      have HR2 := Lib.hid (HR1.out.ch hc2 (by simp))
      have HC2 := Lib.hid hc2
      have hbE := BxE.hb HE2.out
      have e4 : w2.cell? ⟨b.X, 4, none⟩ = some (.pointer (some ⟨b.Ra, 0, none⟩)) := HP2.out.cells.2.2.2.2.1
      have hheld : w2.cell? ⟨b.X, 4, none⟩ = some (.pointer (some ⟨b.Ra, 0, none⟩)) ∧ w2.cell? ⟨w.heap.size, 0, none⟩ = some (.int .u64 (x.k : Int)) ∧ w2.cell? ⟨w.heap.size, 1, none⟩ = some (.int .u64 (x.v 0 : Int)) ∧ w2.cell? ⟨w.heap.size, 2, none⟩ = some (.int .u64 (x.v 1 : Int)) ∧ w2.cell? ⟨w.heap.size, 3, none⟩ = some (.int .u64 (x.v 2 : Int)) ∧ w2.cell? ⟨w.heap.size, 4, none⟩ = some (.int .u64 (x.v 3 : Int)) := ⟨e4, hbE.b0, hbE.b1, hbE.b2, hbE.b3, hbE.b4⟩
      rw [hw2] at hheld
      go_simp
      refine hK.out _ _ hheld (fun hHeld => ?_)
      clear hK K
      try simp only [Act.put, List.setIfInBounds_toArray, List.set_cons_zero, List.set_cons_succ]
      change wpAnyH _ _ _ _ _ _ _ _ (w1.alloc (.cells #[.int .i64 0, .int .i64 0] 39)).drew
      rw [← hw2]
      obtain ⟨X5, hX5⟩ : ∃ X5, X5 = w1.heap.size := ⟨_, rfl⟩
      rw [← hX5] at hN2 ⊢
      have HXe := Lib.hid (show b.Eh ≤ X5 ∧ w.heap.size + 1 < X5 from ⟨by rw [hX5]; exact H1.out.eh, by rw [hX5, HSz.out]; omega⟩)
      have HN2 := Lib.hid hN2
      clear e4 hbE hheld hw2 hc2 hX5 hN2
      refine wpAnyH_ready (rs := [5]) (by kernel_rfl) (by simp) ?_
      refine AllReadyH.cons (o := { dst := some 13, op := _, type := _, pos := _, after := _, guard := _ }) rfl (fun K hK => ?_) AllReadyH.nil
      go_simp
      with_reducible refine (HPut.out w2 HC2.out).mono ?_; rintro r w3 ⟨rfl, hA3, hc3⟩; have HP3 := Lib.hid (HP2.out.arena hc3 hA3); have HE3 := Lib.hid (HE2.out.ch hc3 (by have := HGe.out; have := HEh.out; simp; omega)); have HR3 := Lib.hid (HR2.out.ch hc3 (by have := HGe.out; have := HEh.out; simp; omega)); have hN3 := HN2.out.ch hc3 (by have := HGe.out; have := HXe.out.1; simp; omega); have hbE := BxE.hb HE3.out; have e4 : w3.cell? ⟨b.X, 4, none⟩ = some (.pointer (some ⟨b.Ra, 0, none⟩)) := HP3.out.1.cells.2.2.2.2.1; clear hA3 hc3
      refine hK.out _ _ ⟨e4, hbE.b0, hbE.b1, hbE.b2, hbE.b3, hbE.b4⟩ (fun hHeld => ?_)
      clear hK K
      try simp only [Act.put, List.setIfInBounds_toArray, List.set_cons_zero, List.set_cons_succ]
      refine wpAnyH_take (i := 6) (oi := { dst := some 7, op := _, type := _, pos := _, after := _, guard := _ }) (v := ?v10_6) rfl (by kernel_rfl) (by kernel_rfl) (by kernel_rfl) (by intro _ _ _ h; first | exact h | exact nomatch h.1) (.inl ⟨by rfl, ?h10_6⟩) (by assumption) ?_
      case h10_6 => intro w hSw; obtain ⟨hs0, hs1, hs2, hs3, hs4, hs5⟩ := hSw; go_simp; (try with_reducible rfl)
      try simp only [Act.put, List.setIfInBounds_toArray, List.set_cons_zero, List.set_cons_succ]
      refine wpAnyH_take (i := 7) (oi := { dst := some 14, op := _, type := _, pos := _, after := _, guard := _ }) (v := ?v11_7) rfl (by kernel_rfl) (by kernel_rfl) (by kernel_rfl) (by intro _ _ _ h; first | exact h | exact nomatch h.1) (.inl ⟨by rfl, ?h11_7⟩) (by assumption) ?_
      case h11_7 => intro w hSw; obtain ⟨hs0, hs1, hs2, hs3, hs4, hs5⟩ := hSw; go_simp; (try with_reducible rfl)
      try simp only [Act.put, List.setIfInBounds_toArray, List.set_cons_zero, List.set_cons_succ]
      refine wpAnyH_take (i := 8) (oi := { dst := some 15, op := _, type := _, pos := _, after := _, guard := _ }) (v := ?v12_8) rfl (by kernel_rfl) (by kernel_rfl) (by kernel_rfl) (by intro _ _ _ h; first | exact h | exact nomatch h.1) (.inl ⟨by rfl, ?h12_8⟩) (by assumption) ?_
      case h12_8 => intro w hSw; obtain ⟨hs0, hs1, hs2, hs3, hs4, hs5⟩ := hSw; go_simp; (try with_reducible rfl)
      try simp only [Act.put, List.setIfInBounds_toArray, List.set_cons_zero, List.set_cons_succ]
      have g0 := hN3.c 0 rfl
      have g1 := setCell_other (u := Value.int .i64 p) (hN3.c 1 rfl) (addr_ne_off (g := X5) (a := 0) (b := 1) (by decide))
      have f0 := hN3.f 0
      have f1 := hN3.f 1
      have HN3 := Lib.hid hN3
      have hne : X5 ≠ b.X := by have := HXe.out.1; have l := HP3.out.1.lay; have := l.xg; have := l.gr; have := l.rs; have := l.sr; have := l.re; omega
      have hh4 := setCell_other (u := Value.int .i64 q) (setCell_other (u := Value.int .i64 p) e4 (addr_ne_block (g := X5) (a := 0) hne)) (addr_ne_block (g := X5) (a := 1) hne)
      have HB2 := Lib.hid (BxE.hb ((HE3.out.far (p := ⟨X5, 0, none⟩) (by have := HXe.out.2; show X5 ≠ w.heap.size; omega) (.int .i64 p)).far (p := ⟨X5, 1, none⟩) (by have := HXe.out.2; show X5 ≠ w.heap.size; omega) (.int .i64 q)))
      clear e4 hbE hN3
      refine wpAnyH_ready (rs := [10]) (by kernel_rfl) (by simp) ?_
      refine AllReadyH.cons (o := { dst := none, op := _, type := _, pos := _, after := _, guard := _ }) rfl (fun K hK => ?_) AllReadyH.nil
      go_simp
      refine hK.out _ _ ⟨hh4, HB2.out.b0, HB2.out.b1, HB2.out.b2, HB2.out.b3, HB2.out.b4⟩ (fun hHeld => ?_)
      clear hK K
      try simp only [Act.put, List.setIfInBounds_toArray, List.set_cons_zero, List.set_cons_succ]
      refine wpAnyH_take (i := 11) (oi := { dst := some 6, op := _, type := _, pos := _, after := _, guard := _ }) (v := ?v13_11) rfl (by kernel_rfl) (by kernel_rfl) (by kernel_rfl) (by intro _ _ _ h; first | exact h | exact nomatch h.1) (.inl ⟨by rfl, ?h13_11⟩) (by assumption) ?_
      case h13_11 => intro w hSw; obtain ⟨hs0, hs1, hs2, hs3, hs4, hs5⟩ := hSw; go_simp; (try with_reducible rfl)
      try simp only [Act.put, List.setIfInBounds_toArray, List.set_cons_zero, List.set_cons_succ]
      refine wpAnyH_done (by kernel_rfl) ?_ _
      obtain ⟨hp, hb⟩ := HP3.out.1.ret HN3.out HXe.out.1 (.int .i64 p) (.int .i64 q)
      have hx5 := HXe.out.2
      exact ⟨rfl, X5, HXe.out.1, HXe.out.2, rfl, hb, (HE3.out.far (p := ⟨X5, 0, none⟩) (by show X5 ≠ w.heap.size; omega) _).far (p := ⟨X5, 1, none⟩) (by show X5 ≠ w.heap.size; omega) _, (HR3.out.far (p := ⟨X5, 0, none⟩) (by show X5 ≠ w.heap.size + 1; omega) _).far (p := ⟨X5, 1, none⟩) (by show X5 ≠ w.heap.size + 1; omega) _, hp,
        (((Xn.of_ch HC1.out).trans (Xn.of_ch HC2.out)).trans HP3.out.2).set (p := ⟨X5, 0, none⟩) (by show w.heap.size ≤ X5; omega) _ |>.set (p := ⟨X5, 1, none⟩) (by show w.heap.size ≤ X5; omega) _⟩
  case post =>
    rintro e a' wq ⟨rfl, X5, he5, h15, rfl, hb5, hbE, hbR, hp, hx⟩
    have HP := Lib.hid hp
    have HX := Lib.hid hx
    have HB5 := Lib.hid hb5
    have HBE := Lib.hid hbE
    have HBR := Lib.hid hbR
    have HL := Lib.hid (And.intro he5 h15)
    have HPut2 := Lib.hid (fun W (hW : Ch [] wq W) => by
      obtain ⟨H, ht⟩ := (hp.quiet hW).tb
      exact bH.put_new ht x.k (p, q) HNo.out HRm.out)
    have c5 := hp.cells.2.2.2.2.2.1
    have e0 := hbE.c 0 rfl
    have g0 := hb5.c 0 rfl
    have g1 := hb5.c 1 rfl
    clear hp hx hb5 hbE hbR he5 h15 HPut
    go_wp2_with fail
    refine wp_region_noPanic ?_
    refine wp_region_held_drew (S := fun w' => w'.cell? ⟨b.X, 5, none⟩ = some (.pointer (some ⟨b.Rt, 0, none⟩)) ∧ w'.cell? ⟨w.heap.size, 0, none⟩ = some (.int .u64 (x.k : Int)) ∧ w'.cell? ⟨X5, 0, none⟩ = some (.int .i64 p) ∧ w'.cell? ⟨X5, 1, none⟩ = some (.int .i64 q)) (by kernel_rfl) ⟨c5, e0, g0, g1⟩ (fun hHeld => ?_)
    refine wpAnyH_take (i := 0) (oi := { dst := some 16, op := _, type := _, pos := _, after := _, guard := _ }) (v := ?v14_0) rfl (by kernel_rfl) (by kernel_rfl) (by kernel_rfl) (by intro _ _ _ h; first | exact h | exact nomatch h.1) (.inl ⟨by rfl, ?h14_0⟩) (by assumption) ?_
    case h14_0 => intro w hSw; obtain ⟨hs0, hs1, hs2, hs3⟩ := hSw; go_simp; (try with_reducible rfl)
    try simp only [Act.put, List.setIfInBounds_toArray, List.set_cons_zero, List.set_cons_succ]
    refine wpAnyH_take (i := 1) (oi := { dst := some 17, op := _, type := _, pos := _, after := _, guard := _ }) (v := ?v15_1) rfl (by kernel_rfl) (by kernel_rfl) (by kernel_rfl) (by intro _ _ _ h; first | exact h | exact nomatch h.1) (.inl ⟨by rfl, ?h15_1⟩) (by assumption) ?_
    case h15_1 => intro w hSw; obtain ⟨hs0, hs1, hs2, hs3⟩ := hSw; go_simp; (try with_reducible rfl)
    try simp only [Act.put, List.setIfInBounds_toArray, List.set_cons_zero, List.set_cons_succ]
    refine wpAnyH_take (i := 2) (oi := { dst := some 18, op := _, type := _, pos := _, after := _, guard := _ }) (v := ?v16_2) rfl (by kernel_rfl) (by kernel_rfl) (by kernel_rfl) (by intro _ _ _ h; first | exact h | exact nomatch h.1) (.inl ⟨by rfl, ?h16_2⟩) (by assumption) ?_
    case h16_2 => intro w hSw; obtain ⟨hs0, hs1, hs2, hs3⟩ := hSw; go_simp; (try with_reducible rfl)
    try simp only [Act.put, List.setIfInBounds_toArray, List.set_cons_zero, List.set_cons_succ]
    refine wpAnyH_take (i := 3) (oi := { dst := some 19, op := _, type := _, pos := _, after := _, guard := _ }) (v := ?v17_3) rfl (by kernel_rfl) (by kernel_rfl) (by kernel_rfl) (by intro _ _ _ h; first | exact h | exact nomatch h.1) (.inl ⟨by rfl, ?h17_3⟩) (by assumption) ?_
    case h17_3 => intro w hSw; obtain ⟨hs0, hs1, hs2, hs3⟩ := hSw; go_simp; (try with_reducible rfl)
    try simp only [Act.put, List.setIfInBounds_toArray, List.set_cons_zero, List.set_cons_succ]
    refine wpAnyH_take (i := 4) (oi := { dst := some 20, op := _, type := _, pos := _, after := _, guard := _ }) (v := ?v18_4) rfl (by kernel_rfl) (by kernel_rfl) (by kernel_rfl) (by intro _ _ _ h; first | exact h | exact nomatch h.1) (.inl ⟨by rfl, ?h18_4⟩) (by assumption) ?_
    case h18_4 => intro w hSw; obtain ⟨hs0, hs1, hs2, hs3⟩ := hSw; go_simp; (try with_reducible rfl)
    try simp only [Act.put, List.setIfInBounds_toArray, List.set_cons_zero, List.set_cons_succ]
    refine wpAnyH_take (i := 5) (oi := { dst := some 21, op := _, type := _, pos := _, after := _, guard := _ }) (v := ?v19_5) rfl (by kernel_rfl) (by kernel_rfl) (by kernel_rfl) (by intro _ _ _ h; first | exact h | exact nomatch h.1) (.inl ⟨by rfl, ?h19_5⟩) (by assumption) ?_
    case h19_5 => intro w hSw; obtain ⟨hs0, hs1, hs2, hs3⟩ := hSw; go_simp; (try with_reducible rfl)
    try simp only [Act.put, List.setIfInBounds_toArray, List.set_cons_zero, List.set_cons_succ]
    refine wpAnyH_take (i := 6) (oi := { dst := some 22, op := _, type := _, pos := _, after := _, guard := _ }) (v := ?v20_6) rfl (by kernel_rfl) (by kernel_rfl) (by kernel_rfl) (by intro _ _ _ h; first | exact h | exact nomatch h.1) (.inl ⟨by rfl, ?h20_6⟩) (by assumption) ?_
    case h20_6 => intro w hSw; obtain ⟨hs0, hs1, hs2, hs3⟩ := hSw; go_simp; (try with_reducible rfl)
    try simp only [Act.put, List.setIfInBounds_toArray, List.set_cons_zero, List.set_cons_succ]
    clear c5 e0 g0 g1
    refine wpAnyH_ready (rs := [7]) (by kernel_rfl) (by simp) ?_
    refine AllReadyH.cons (o := { dst := some 23, op := _, type := _, pos := _, after := _, guard := _ }) rfl (fun K hK => ?_) AllReadyH.nil
    go_simp
    with_reducible refine (HPut2.out _ (Ch.refl [] wq).drew).mono ?_; rintro r w4 ⟨rfl, ht4, htn⟩; have HP4 := Lib.hid ((HP.out.quiet (Ch.refl [] wq).drew).table htn ht4); have hx4 := (Xn.of_ch (b := b) (Ch.refl [] wq).drew).trans HP4.out.2; have HX4 := Lib.hid (HX.out.trans hx4); have hE4 := hx4.hb HBE.out HEh.out (by decide) (by decide); have h54 := hx4.hb HB5.out HL.out.1 (by decide) (by decide); have HR4 := Lib.hid (hx4.hb HBR.out (Nat.le_succ_of_le HEh.out) (by decide) (by decide)); have HE4 := Lib.hid hE4; have H54 := Lib.hid h54; have c5 := HP4.out.1.cells.2.2.2.2.2.1; have e0 := hE4.c 0 rfl; have g0 := h54.c 0 rfl; have g1 := h54.c 1 rfl; clear ht4 htn hx4 hE4 h54
    refine hK.out _ _ ⟨c5, e0, g0, g1⟩ (fun hHeld => ?_)
    clear hK K
    try simp only [Act.put, List.setIfInBounds_toArray, List.set_cons_zero, List.set_cons_succ]
    refine wpAnyH_done (by kernel_rfl) ?_ _
    refine NoPanic.normal ?_
    clear c5 g0 g1 hHeld HPut2
    have c6 := HP4.out.1.cells.2.2.2.2.2.2
    go_wp2_with fail
    obtain ⟨w6, hw6⟩ : ∃ w6, w6 = (w4.alloc (.cells #[.int .u64 (x.k : Int)] 40)).drew := ⟨_, rfl⟩
    have hc6 : Ch [] w4 w6 := by rw [hw6]; exact ((Ch.refl [] w4).alloc _).drew
    have HT := Lib.hid (used_touch (HP4.out.1.quiet hc6) hk HIn.out (Y := w4.heap.size) (by rw [hw6]; exact HB.new w4 _ _) hn)
    have c66 := (HP4.out.1.quiet hc6).cells.2.2.2.2.2.2
    have e06 := (HE4.out.ch hc6 (by simp)).c 0 rfl
    have hheld : w6.cell? ⟨b.X, 6, none⟩ = some (.pointer (usP b s.kind)) ∧ w6.cell? ⟨w.heap.size, 0, none⟩ = some (.int .u64 (x.k : Int)) := ⟨c66, e06⟩
    rw [hw6] at hheld
    have HC6 := Lib.hid hc6
    have HE6 := Lib.hid (HE4.out.ch hc6 (by simp))
    have H56 := Lib.hid (H54.out.ch hc6 (by simp))
    have HR6 := Lib.hid (HR4.out.ch hc6 (by simp))
    clear hc6 c66 e06
    refine wp_region_noPanic ?_
    refine wp_region_held_drew (S := fun w' => w'.cell? ⟨b.X, 6, none⟩ = some (.pointer (usP b s.kind)) ∧ w'.cell? ⟨w.heap.size, 0, none⟩ = some (.int .u64 (x.k : Int))) (by kernel_rfl) ⟨c6, e0⟩ (fun hHeld => ?_)
    refine wpAnyH_take (i := 0) (oi := { dst := some 24, op := _, type := _, pos := _, after := _, guard := _ }) (v := ?v21_0) rfl (by kernel_rfl) (by kernel_rfl) (by kernel_rfl) (by intro _ _ _ h; first | exact h | exact nomatch h.1) (.inl ⟨by rfl, ?h21_0⟩) (by assumption) ?_
    case h21_0 => intro w hSw; obtain ⟨hs0, hs1⟩ := hSw; go_simp; (try with_reducible rfl)
    try simp only [Act.put, List.setIfInBounds_toArray, List.set_cons_zero, List.set_cons_succ]
    refine wpAnyH_take (i := 1) (oi := { dst := some 25, op := _, type := _, pos := _, after := _, guard := _ }) (v := ?v22_1) rfl (by kernel_rfl) (by kernel_rfl) (by kernel_rfl) (by intro _ _ _ h; first | exact h | exact nomatch h.1) (.inl ⟨by rfl, ?h22_1⟩) (by assumption) ?_
    case h22_1 => intro w hSw; obtain ⟨hs0, hs1⟩ := hSw; go_simp; (try with_reducible rfl)
    try simp only [Act.put, List.setIfInBounds_toArray, List.set_cons_zero, List.set_cons_succ]
    refine wpAnyH_take (i := 2) (oi := { dst := some 26, op := _, type := _, pos := _, after := _, guard := _ }) (v := ?v23_2) rfl (by kernel_rfl) (by kernel_rfl) (by kernel_rfl) (by intro _ _ _ h; first | exact h | exact nomatch h.1) (.inl ⟨by rfl, ?h23_2⟩) (by assumption) ?_
    case h23_2 => intro w hSw; obtain ⟨hs0, hs1⟩ := hSw; go_simp; (try with_reducible rfl)
    try simp only [Act.put, List.setIfInBounds_toArray, List.set_cons_zero, List.set_cons_succ]
    refine wpAnyH_take (i := 3) (oi := { dst := some 27, op := _, type := _, pos := _, after := _, guard := _ }) (v := ?v24_3) rfl (by kernel_rfl) (by kernel_rfl) (by kernel_rfl) (by intro _ _ _ h; first | exact h | exact nomatch h.1) (.inl ⟨by rfl, ?h24_3⟩) (by assumption) ?_
    case h24_3 => intro w hSw; obtain ⟨hs0, hs1⟩ := hSw; go_simp; (try with_reducible rfl)
    try simp only [Act.put, List.setIfInBounds_toArray, List.set_cons_zero, List.set_cons_succ]
    refine wpAnyH_take (i := 4) (oi := { dst := some 28, op := _, type := _, pos := _, after := _, guard := _ }) (v := ?v25_4) rfl (by kernel_rfl) (by kernel_rfl) (by kernel_rfl) (by intro _ _ _ h; first | exact h | exact nomatch h.1) (.inl ⟨by rfl, ?h25_4⟩) (by assumption) ?_
    case h25_4 => intro w hSw; obtain ⟨hs0, hs1⟩ := hSw; go_simp; (try with_reducible rfl)
    try simp only [Act.put, List.setIfInBounds_toArray, List.set_cons_zero, List.set_cons_succ]
    refine wpAnyH_take (i := 5) (oi := { dst := some 29, op := _, type := _, pos := _, after := _, guard := _ }) (v := ?v26_5) rfl (by kernel_rfl) (by kernel_rfl) (by kernel_rfl) (by intro _ _ _ h; first | exact h | exact nomatch h.1) (.inl ⟨by rfl, ?h26_5⟩) (by assumption) ?_
    case h26_5 => intro w hSw; obtain ⟨hs0, hs1⟩ := hSw; go_simp; (try with_reducible rfl)
    try simp only [Act.put, List.setIfInBounds_toArray, List.set_cons_zero, List.set_cons_succ]
    refine wpAnyH_ready (rs := [6]) (by kernel_rfl) (by simp) ?_
    refine AllReadyH.cons (o := { dst := some 30, op := _, type := _, pos := _, after := _, guard := _ }) rfl (fun K hK => ?_) AllReadyH.nil
    go_simp
    refine hK.out _ _ hheld (fun hHeld => ?_)
    clear hK K
    try simp only [Act.put, List.setIfInBounds_toArray, List.set_cons_zero, List.set_cons_succ]
    change wpAnyH _ _ _ _ _ _ _ _ (w4.alloc (.cells #[.int .u64 (x.k : Int)] 40)).drew
    rw [← hw6]
    clear hw6 hheld c6 e0
    refine wpAnyH_ready (rs := [7]) (by kernel_rfl) (by simp) ?_
    refine AllReadyH.cons (o := { dst := some 31, op := _, type := _, pos := _, after := _, guard := _ }) rfl (fun K hK => ?_) AllReadyH.nil
    go_simp
    with_reducible refine HT.out.mono ?_; rintro r w7 ⟨⟨v7, rfl⟩, hp7, hx7⟩; have HP7 := Lib.hid hp7; have HX7 := Lib.hid hx7; have c6 := hp7.cells.2.2.2.2.2.2; have e0 := (hx7.hb HE6.out HEh.out (by decide) (by decide)).c 0 rfl; clear hp7 hx7
    refine hK.out _ _ ⟨c6, e0⟩ (fun hHeld => ?_)
    clear hK K
    try simp only [Act.put, List.setIfInBounds_toArray, List.set_cons_zero, List.set_cons_succ]
    refine wpAnyH_done (by kernel_rfl) ?_ _
    refine NoPanic.normal ?_
    have h57 := HX7.out.hb H56.out HL.out.1 (by decide) (by decide)
    have hR7 := HX7.out.hb HR6.out (Nat.le_succ_of_le HEh.out) (by decide) (by decide)
    have HR7 := Lib.hid hR7
    have g0 := h57.c 0 rfl
    have g1 := h57.c 1 rfl
    have d0 := hR7.c 0 rfl
    have d1 := setCell_other (u := Value.int .i64 p) (hR7.c 1 rfl) (addr_ne_off (g := w.heap.size + 1) (a := 0) (b := 1) (by decide))
    have f0 := hR7.f 0
    have f1 := hR7.f 1
    clear c6 e0 hHeld HT h57 hR7
    go_wp2
    obtain ⟨hp, hb⟩ := HP7.out.ret HR7.out (Nat.le_succ_of_le HEh.out) (.int .i64 p) (.int .i64 q)
    have k0 := hb.c 0 rfl
    have k1 := hb.c 1 rfl
    refine bodyPost_ret (v := hdV (p, q)) ?_ rfl ?_
    · simp [results, Tryz.f38, go_sem, k0, k1]
    · exact ⟨rfl, hp, (((HX4.out.trans (Xn.of_ch HC6.out)).trans HX7.out).set (p := ⟨w.heap.size + 1, 0, none⟩) (Nat.le_succ _) _).set (p := ⟨w.heap.size + 1, 1, none⟩) (Nat.le_succ _) _⟩
end
end Go.Proofs.YtalhlopjaijhcaaGreat

namespace Go.Proofs.YtalhlopjaijhcaaGreat
open Go.RowKit

attribute [local go_sem] Oper.semAt_some

/-- What Put tells, as a value; its cells. -/
abbrev paC (a : PA) : Array Value := #[.int .i64 a.h.1, .int .i64 a.h.2, .int .i64 a.gone.1, .int .i64 a.gone.2, .bool a.out]
abbrev paV (a : PA) : Value := .agg (paC a)
abbrev stP (w : World) (B : Nat) (a : PA) : World := ((((w.setCell ⟨B, 0, none⟩ (.int .i64 a.h.1)).setCell ⟨B, 1, none⟩ (.int .i64 a.h.2)).setCell ⟨B, 2, none⟩ (.int .i64 a.gone.1)).setCell ⟨B, 3, none⟩ (.int .i64 a.gone.2)).setCell ⟨B, 4, none⟩ (.bool a.out)
theorem HB.stP {w : World} {B : Nat} {a : PA} (h : HB w B 62 (paC a)) (a' : PA) : HB (stP w B a') B 62 (paC a') := ((((h.set 0 _).set 1 _).set 2 _).set 3 _).set 4 _
/-- What a store of it reads ahead of each cell. -/
theorem HB.paAt {w : World} {B : Nat} {a : PA} (h : HB w B 62 (paC a)) (a' : PA) : w.cell? ⟨B, 0, none⟩ = some (.int .i64 a.h.1) ∧ (w.setCell ⟨B, 0, none⟩ (.int .i64 a'.h.1)).cell? ⟨B, 1, none⟩ = some (.int .i64 a.h.2) ∧
    ((w.setCell ⟨B, 0, none⟩ (.int .i64 a'.h.1)).setCell ⟨B, 1, none⟩ (.int .i64 a'.h.2)).cell? ⟨B, 2, none⟩ = some (.int .i64 a.gone.1) ∧
    (((w.setCell ⟨B, 0, none⟩ (.int .i64 a'.h.1)).setCell ⟨B, 1, none⟩ (.int .i64 a'.h.2)).setCell ⟨B, 2, none⟩ (.int .i64 a'.gone.1)).cell? ⟨B, 3, none⟩ = some (.int .i64 a.gone.2) ∧
    ((((w.setCell ⟨B, 0, none⟩ (.int .i64 a'.h.1)).setCell ⟨B, 1, none⟩ (.int .i64 a'.h.2)).setCell ⟨B, 2, none⟩ (.int .i64 a'.gone.1)).setCell ⟨B, 3, none⟩ (.int .i64 a'.gone.2)).cell? ⟨B, 4, none⟩ = some (.bool a.out) ∧
    w.frozen? ⟨B, 0, none⟩ = false ∧ w.frozen? ⟨B, 1, none⟩ = false ∧ w.frozen? ⟨B, 2, none⟩ = false ∧ w.frozen? ⟨B, 3, none⟩ = false ∧ w.frozen? ⟨B, 4, none⟩ = false :=
  ⟨h.c 0 rfl, (h.set 0 _).c 1 rfl, ((h.set 0 _).set 1 _).c 2 rfl, (((h.set 0 _).set 1 _).set 2 _).c 3 rfl, ((((h.set 0 _).set 1 _).set 2 _).set 3 _).c 4 rfl, h.f 0, h.f 1, h.f 2, h.f 3, h.f 4⟩
theorem HB.paCells {w : World} {B : Nat} {a : PA} (h : HB w B 62 (paC a)) : w.cell? ⟨B, 0, none⟩ = some (.int .i64 a.h.1) ∧ w.cell? ⟨B, 1, none⟩ = some (.int .i64 a.h.2) ∧ w.cell? ⟨B, 2, none⟩ = some (.int .i64 a.gone.1) ∧ w.cell? ⟨B, 3, none⟩ = some (.int .i64 a.gone.2) ∧ w.cell? ⟨B, 4, none⟩ = some (.bool a.out) :=
  ⟨h.c 0 rfl, h.c 1 rfl, h.c 2 rfl, h.c 3 rfl, h.c 4 rfl⟩
section
variable {w : World} {b : Bk} {s : MS} {N : Nat} {tb : List (Ent (Int × Int))} {us : List Nat}
theorem XP.stP (h : XP w b s N tb us) {B : Nat} {a : PA} (hB : HB w B 62 (paC a)) (he : b.Eh ≤ B) (a' : PA) : XP (stP w B a') b s N tb us :=
  ((((h.other hB he (by decide) (by decide) (by decide) 0 _).other (hB.set 0 _) he (by decide) (by decide) (by decide) 1 _).other ((hB.set 0 _).set 1 _) he (by decide) (by decide) (by decide) 2 _).other (((hB.set 0 _).set 1 _).set 2 _) he (by decide) (by decide) (by decide) 3 _).other ((((hB.set 0 _).set 1 _).set 2 _).set 3 _) he (by decide) (by decide) (by decide) 4 _
theorem Xn.stP {w' : World} (h : Xn b w w') {B : Nat} (hB : w.heap.size ≤ B) (a : PA) : Xn b w (stP w' B a) := ((((h.set (p := ⟨B, 0, none⟩) hB _).set (p := ⟨B, 1, none⟩) hB _).set (p := ⟨B, 2, none⟩) hB _).set (p := ⟨B, 3, none⟩) hB _).set (p := ⟨B, 4, none⟩) hB _
theorem ch_stP {S : List Nat} {a' w' : World} (h : Ch S a' w') {B : Nat} (hB : B ∈ S ∨ a'.heap.size ≤ B) (a : PA) : Ch S a' (stP w' B a) := ((((h.setCell2 (p := ⟨B, 0, none⟩) hB _).setCell2 (p := ⟨B, 1, none⟩) hB _).setCell2 (p := ⟨B, 2, none⟩) hB _).setCell2 (p := ⟨B, 3, none⟩) hB _).setCell2 (p := ⟨B, 4, none⟩) hB _
def noA : PA := ⟨(0, 0), (0, 0), false, 0⟩

/-- Fresh ones may not take the place of a linked one. -/
theorem renew_fresh (x : El) (hd : Int × Int) (pv : Value) : Calls Tryz.prog 59 #[pv, .int .i64 1, hdV hd, elV x] w fun e w' => e = .returned (.tuple #[paV (noPut 5), .int .i64 5]) ∧ Ch [] w w' := by
  obtain ⟨w0, hw0⟩ : ∃ w0, w0 = w.alloc (.cells #[.int .i64 hd.1, .int .i64 hd.2] 39) := ⟨_, rfl⟩
  obtain ⟨w1, hw1⟩ : ∃ w1, w1 = w0.alloc (.cells (aE.elC x) 84) := ⟨_, rfl⟩
  obtain ⟨w2, hw2⟩ : ∃ w2, w2 = w1.alloc (.cells (paC noA) 62) := ⟨_, rfl⟩
  have s0 : w0.heap.size = w.heap.size + 1 := by rw [hw0]; simp
  have s1 : w1.heap.size = w.heap.size + 1 + 1 := by rw [hw1]; simp [s0]
  have HC := Lib.hid (show Ch [] w w2 by rw [hw2, hw1, hw0]; exact (((Ch.refl [] w).alloc _).alloc _).alloc _)
  have HR := Lib.hid (show HB w2 (w.heap.size + 1 + 1) 62 (paC noA) by rw [hw2, ← s1]; exact HB.new w1 _ _)
  have HW := Lib.hid (And.intro hw0 (And.intro hw1 hw2))
  clear s0 s1 hw0 hw1 hw2
  go_enter Tryz.func59, Tryz.ntmps59
  go_wp2
  have e9 := HW.out.2.2
  rw [HW.out.2.1, HW.out.1] at e9
  change w2 = (((w.alloc _).alloc _).alloc (.cells #[.int .i64 0, .int .i64 0, .int .i64 0, .int .i64 0, .bool false] _)) at e9
  rw [← e9]
  obtain ⟨k0, k1, k2, k3, k4⟩ := HR.out.paCells
  refine bodyPost_ret (v := .tuple #[paV (noPut 5), .int .i64 5]) ?_ rfl ?_
  · simp [results, Tryz.f59, go_sem, k0, k1, k2, k3, k4]
    exact ⟨rfl, rfl, rfl, rfl, rfl⟩
  · exact ⟨rfl, HC.out⟩

set_option maxRecDepth 100000 in
set_option maxHeartbeats 4000000 in
theorem renew_any (h : XP w b s N tb us) {how : Int} (hhow : how ≠ 1) (hd : Int × Int) (x : El) (hk : oU.wfK x.k) (hin : s.kind = 2 → x.k ∈ us ∨ us.length < s.n) (hn : N + 1 ≤ 9223372036854775807) :
    Calls Tryz.prog 59 #[mp b, .int .i64 how, hdV hd, elV x] w fun e w' => e = .returned (.tuple #[paV ⟨hd, (0, 0), false, 0⟩, .int .i64 0]) ∧ XP w' b { s with xs := setL s.xs hd.1 hd.2 x } (N + 1) tb (useL s.kind us x.k) ∧ Xn b w w' := by
  obtain ⟨p, q⟩ := hd
  obtain ⟨w0, hw0⟩ : ∃ w0, w0 = w.alloc (.cells #[.int .i64 p, .int .i64 q] 39) := ⟨_, rfl⟩
  obtain ⟨w1, hw1⟩ : ∃ w1, w1 = w0.alloc (.cells (aE.elC x) 84) := ⟨_, rfl⟩
  obtain ⟨w2, hw2⟩ : ∃ w2, w2 = w1.alloc (.cells (paC noA) 62) := ⟨_, rfl⟩
  have s0 : w0.heap.size = w.heap.size + 1 := by rw [hw0]; simp
  have s1 : w1.heap.size = w.heap.size + 1 + 1 := by rw [hw1]; simp [s0]
  have hc2 : Ch [] w w2 := by rw [hw2, hw1, hw0]; exact (((Ch.refl [] w).alloc _).alloc _).alloc _
  have HC2 := Lib.hid hc2
  have HH2 := Lib.hid (show HB w2 w.heap.size 39 #[.int .i64 p, .int .i64 q] by rw [hw2, hw1, hw0]; exact ((HB.new w _ _).alloc _).alloc _)
  have HE2 := Lib.hid (show HB w2 (w.heap.size + 1) 84 (aE.elC x) by rw [hw2, hw1, ← s0]; exact (HB.new w0 _ _).alloc _)
  have HR2 := Lib.hid (show HB w2 (w.heap.size + 1 + 1) 62 (paC noA) by rw [hw2, ← s1]; exact HB.new w1 _ _)
  have H2 := Lib.hid (h.quiet hc2)
  have HEh := Lib.hid h.eh
  have HIn := Lib.hid hin
  have HW := Lib.hid (And.intro hw0 (And.intro hw1 hw2))
  have HSet := Lib.hid (aE.set_any (w := w2.drew) (h.quiet hc2.drew).ar p q x)
  have hd1 : (how == 1) = false := by simpa using hhow
  clear h hc2 s0 s1 hw0 hw1 hw2 hin hhow
  go_enter Tryz.func59, Tryz.ntmps59
  go_wp2_with fail
  have e9 := HW.out.2.2
  rw [HW.out.2.1, HW.out.1] at e9
  change w2 = (((w.alloc _).alloc _).alloc (.cells #[.int .i64 0, .int .i64 0, .int .i64 0, .int .i64 0, .bool false] _)) at e9
  rw [← e9]
  clear e9
  have c4 := H2.out.cells.2.2.2.2.1
  have g0 := HH2.out.c 0 rfl
  have g1 := HH2.out.c 1 rfl
  have e0 := HE2.out.c 0 rfl
  have e1 := HE2.out.c 1 rfl
  have e2 := HE2.out.c 2 rfl
  have e3 := HE2.out.c 3 rfl
  have e4 := HE2.out.c 4 rfl
  refine wp_region_noPanic ?_
  refine wp_region_held_drew (S := fun w' => w'.cell? ⟨b.X, 4, none⟩ = some (.pointer (some ⟨b.Ra, 0, none⟩)) ∧ w'.cell? ⟨w.heap.size, 0, none⟩ = some (.int .i64 p) ∧ w'.cell? ⟨w.heap.size, 1, none⟩ = some (.int .i64 q) ∧ w'.cell? ⟨w.heap.size + 1, 0, none⟩ = some (.int .u64 (x.k : Int)) ∧ w'.cell? ⟨w.heap.size + 1, 1, none⟩ = some (.int .u64 (x.v 0 : Int)) ∧ w'.cell? ⟨w.heap.size + 1, 2, none⟩ = some (.int .u64 (x.v 1 : Int)) ∧ w'.cell? ⟨w.heap.size + 1, 3, none⟩ = some (.int .u64 (x.v 2 : Int)) ∧ w'.cell? ⟨w.heap.size + 1, 4, none⟩ = some (.int .u64 (x.v 3 : Int))) (by kernel_rfl) ⟨c4, g0, g1, e0, e1, e2, e3, e4⟩ (fun hHeld => ?_)
  refine wpAnyH_take (i := 0) (oi := { dst := some 13, op := _, type := _, pos := _, after := _, guard := _ }) (v := ?v1_0) rfl (by kernel_rfl) (by kernel_rfl) (by kernel_rfl) (by intro _ _ _ h; first | exact h | exact nomatch h.1) (.inl ⟨by rfl, ?h1_0⟩) (by assumption) ?_
  case h1_0 => intro w hSw; obtain ⟨hs0, hs1, hs2, hs3, hs4, hs5, hs6, hs7⟩ := hSw; go_simp; (try with_reducible rfl)
  try simp only [Act.put, List.setIfInBounds_toArray, List.set_cons_zero, List.set_cons_succ]
  refine wpAnyH_take (i := 1) (oi := { dst := some 14, op := _, type := _, pos := _, after := _, guard := _ }) (v := ?v2_1) rfl (by kernel_rfl) (by kernel_rfl) (by kernel_rfl) (by intro _ _ _ h; first | exact h | exact nomatch h.1) (.inl ⟨by rfl, ?h2_1⟩) (by assumption) ?_
  case h2_1 => intro w hSw; obtain ⟨hs0, hs1, hs2, hs3, hs4, hs5, hs6, hs7⟩ := hSw; go_simp; (try with_reducible rfl)
  try simp only [Act.put, List.setIfInBounds_toArray, List.set_cons_zero, List.set_cons_succ]
  refine wpAnyH_take (i := 2) (oi := { dst := some 15, op := _, type := _, pos := _, after := _, guard := _ }) (v := ?v3_2) rfl (by kernel_rfl) (by kernel_rfl) (by kernel_rfl) (by intro _ _ _ h; first | exact h | exact nomatch h.1) (.inl ⟨by rfl, ?h3_2⟩) (by assumption) ?_
  case h3_2 => intro w hSw; obtain ⟨hs0, hs1, hs2, hs3, hs4, hs5, hs6, hs7⟩ := hSw; go_simp; (try with_reducible rfl)
  try simp only [Act.put, List.setIfInBounds_toArray, List.set_cons_zero, List.set_cons_succ]
  refine wpAnyH_take (i := 3) (oi := { dst := some 16, op := _, type := _, pos := _, after := _, guard := _ }) (v := ?v4_3) rfl (by kernel_rfl) (by kernel_rfl) (by kernel_rfl) (by intro _ _ _ h; first | exact h | exact nomatch h.1) (.inl ⟨by rfl, ?h4_3⟩) (by assumption) ?_
  case h4_3 => intro w hSw; obtain ⟨hs0, hs1, hs2, hs3, hs4, hs5, hs6, hs7⟩ := hSw; go_simp; (try with_reducible rfl)
  try simp only [Act.put, List.setIfInBounds_toArray, List.set_cons_zero, List.set_cons_succ]
  refine wpAnyH_take (i := 4) (oi := { dst := some 17, op := _, type := _, pos := _, after := _, guard := _ }) (v := ?v5_4) rfl (by kernel_rfl) (by kernel_rfl) (by kernel_rfl) (by intro _ _ _ h; first | exact h | exact nomatch h.1) (.inl ⟨by rfl, ?h5_4⟩) (by assumption) ?_
  case h5_4 => intro w hSw; obtain ⟨hs0, hs1, hs2, hs3, hs4, hs5, hs6, hs7⟩ := hSw; go_simp; (try with_reducible rfl)
  try simp only [Act.put, List.setIfInBounds_toArray, List.set_cons_zero, List.set_cons_succ]
  refine wpAnyH_take (i := 5) (oi := { dst := some 18, op := _, type := _, pos := _, after := _, guard := _ }) (v := ?v6_5) rfl (by kernel_rfl) (by kernel_rfl) (by kernel_rfl) (by intro _ _ _ h; first | exact h | exact nomatch h.1) (.inl ⟨by rfl, ?h6_5⟩) (by assumption) ?_
  case h6_5 => intro w hSw; obtain ⟨hs0, hs1, hs2, hs3, hs4, hs5, hs6, hs7⟩ := hSw; go_simp; (try with_reducible rfl)
  try simp only [Act.put, List.setIfInBounds_toArray, List.set_cons_zero, List.set_cons_succ]
  clear c4 g0 g1 e0 e1 e2 e3 e4
  refine wpAnyH_ready (rs := [6]) (by kernel_rfl) (by simp) ?_
  refine AllReadyH.cons (o := { dst := some 19, op := _, type := _, pos := _, after := _, guard := _ }) rfl (fun K hK => ?_) AllReadyH.nil
  go_simp
  with_reducible refine HSet.out.mono ?_; rintro r w3 ⟨rfl, hA3, hc3⟩; have HP3 := Lib.hid ((H2.out.quiet (Ch.refl [] w2).drew).arena hc3 hA3); have hx3 := (Xn.of_ch (b := b) (Ch.refl [] w2).drew).trans HP3.out.2; have HX3 := Lib.hid hx3; have hH3 := hx3.hb HH2.out HEh.out (by decide) (by decide); have hE3 := hx3.hb HE2.out (Nat.le_succ_of_le HEh.out) (by decide) (by decide); have HR3 := Lib.hid (hx3.hb HR2.out (Nat.le_succ_of_le (Nat.le_succ_of_le HEh.out)) (by decide) (by decide)); have HH3 := Lib.hid hH3; have HE3 := Lib.hid hE3; have c4 := HP3.out.1.cells.2.2.2.2.1; clear hA3 hc3 hx3
  refine hK.out _ _ ⟨c4, hH3.c 0 rfl, hH3.c 1 rfl, hE3.c 0 rfl, hE3.c 1 rfl, hE3.c 2 rfl, hE3.c 3 rfl, hE3.c 4 rfl⟩ (fun hHeld => ?_)
  clear hK K
  try simp only [Act.put, List.setIfInBounds_toArray, List.set_cons_zero, List.set_cons_succ]
  refine wpAnyH_done (by kernel_rfl) ?_ _
  refine NoPanic.normal ?_
  have c6 := HP3.out.1.cells.2.2.2.2.2.2
  have e0 := hE3.c 0 rfl
  clear c4 hH3 hE3 hHeld HSet
  go_wp2_with fail
  obtain ⟨w6, hw6⟩ : ∃ w6, w6 = (w3.alloc (.cells #[.int .u64 (x.k : Int)] 40)).drew := ⟨_, rfl⟩
  have hc6 : Ch [] w3 w6 := by rw [hw6]; exact ((Ch.refl [] w3).alloc _).drew
  have HT := Lib.hid (used_touch (HP3.out.1.quiet hc6) hk HIn.out (Y := w3.heap.size) (by rw [hw6]; exact HB.new w3 _ _) hn)
  have c66 := (HP3.out.1.quiet hc6).cells.2.2.2.2.2.2
  have HE6 := Lib.hid (HE3.out.ch hc6 (by simp))
  have HH6 := Lib.hid (HH3.out.ch hc6 (by simp))
  have HR6 := Lib.hid (HR3.out.ch hc6 (by simp))
  have e06 := HE6.out.c 0 rfl
  have hheld : w6.cell? ⟨b.X, 6, none⟩ = some (.pointer (usP b s.kind)) ∧ w6.cell? ⟨w.heap.size + 1, 0, none⟩ = some (.int .u64 (x.k : Int)) := ⟨c66, e06⟩
  rw [hw6] at hheld
  have HC6 := Lib.hid hc6
  clear hc6 c66 e06
  refine wp_region_noPanic ?_
  refine wp_region_held_drew (S := fun w' => w'.cell? ⟨b.X, 6, none⟩ = some (.pointer (usP b s.kind)) ∧ w'.cell? ⟨w.heap.size + 1, 0, none⟩ = some (.int .u64 (x.k : Int))) (by kernel_rfl) ⟨c6, e0⟩ (fun hHeld => ?_)
  refine wpAnyH_take (i := 0) (oi := { dst := some 20, op := _, type := _, pos := _, after := _, guard := _ }) (v := ?v7_0) rfl (by kernel_rfl) (by kernel_rfl) (by kernel_rfl) (by intro _ _ _ h; first | exact h | exact nomatch h.1) (.inl ⟨by rfl, ?h7_0⟩) (by assumption) ?_
  case h7_0 => intro w hSw; obtain ⟨hs0, hs1⟩ := hSw; go_simp; (try with_reducible rfl)
  try simp only [Act.put, List.setIfInBounds_toArray, List.set_cons_zero, List.set_cons_succ]
  refine wpAnyH_take (i := 1) (oi := { dst := some 21, op := _, type := _, pos := _, after := _, guard := _ }) (v := ?v8_1) rfl (by kernel_rfl) (by kernel_rfl) (by kernel_rfl) (by intro _ _ _ h; first | exact h | exact nomatch h.1) (.inl ⟨by rfl, ?h8_1⟩) (by assumption) ?_
  case h8_1 => intro w hSw; obtain ⟨hs0, hs1⟩ := hSw; go_simp; (try with_reducible rfl)
  try simp only [Act.put, List.setIfInBounds_toArray, List.set_cons_zero, List.set_cons_succ]
  refine wpAnyH_take (i := 2) (oi := { dst := some 22, op := _, type := _, pos := _, after := _, guard := _ }) (v := ?v9_2) rfl (by kernel_rfl) (by kernel_rfl) (by kernel_rfl) (by intro _ _ _ h; first | exact h | exact nomatch h.1) (.inl ⟨by rfl, ?h9_2⟩) (by assumption) ?_
  case h9_2 => intro w hSw; obtain ⟨hs0, hs1⟩ := hSw; go_simp; (try with_reducible rfl)
  try simp only [Act.put, List.setIfInBounds_toArray, List.set_cons_zero, List.set_cons_succ]
  refine wpAnyH_take (i := 3) (oi := { dst := some 23, op := _, type := _, pos := _, after := _, guard := _ }) (v := ?v10_3) rfl (by kernel_rfl) (by kernel_rfl) (by kernel_rfl) (by intro _ _ _ h; first | exact h | exact nomatch h.1) (.inl ⟨by rfl, ?h10_3⟩) (by assumption) ?_
  case h10_3 => intro w hSw; obtain ⟨hs0, hs1⟩ := hSw; go_simp; (try with_reducible rfl)
  try simp only [Act.put, List.setIfInBounds_toArray, List.set_cons_zero, List.set_cons_succ]
  refine wpAnyH_take (i := 4) (oi := { dst := some 24, op := _, type := _, pos := _, after := _, guard := _ }) (v := ?v11_4) rfl (by kernel_rfl) (by kernel_rfl) (by kernel_rfl) (by intro _ _ _ h; first | exact h | exact nomatch h.1) (.inl ⟨by rfl, ?h11_4⟩) (by assumption) ?_
  case h11_4 => intro w hSw; obtain ⟨hs0, hs1⟩ := hSw; go_simp; (try with_reducible rfl)
  try simp only [Act.put, List.setIfInBounds_toArray, List.set_cons_zero, List.set_cons_succ]
  refine wpAnyH_take (i := 5) (oi := { dst := some 25, op := _, type := _, pos := _, after := _, guard := _ }) (v := ?v12_5) rfl (by kernel_rfl) (by kernel_rfl) (by kernel_rfl) (by intro _ _ _ h; first | exact h | exact nomatch h.1) (.inl ⟨by rfl, ?h12_5⟩) (by assumption) ?_
  case h12_5 => intro w hSw; obtain ⟨hs0, hs1⟩ := hSw; go_simp; (try with_reducible rfl)
  try simp only [Act.put, List.setIfInBounds_toArray, List.set_cons_zero, List.set_cons_succ]
  refine wpAnyH_ready (rs := [6]) (by kernel_rfl) (by simp) ?_
  refine AllReadyH.cons (o := { dst := some 26, op := _, type := _, pos := _, after := _, guard := _ }) rfl (fun K hK => ?_) AllReadyH.nil
  go_simp
  refine hK.out _ _ hheld (fun hHeld => ?_)
  clear hK K
  try simp only [Act.put, List.setIfInBounds_toArray, List.set_cons_zero, List.set_cons_succ]
  change wpAnyH _ _ _ _ _ _ _ _ (w3.alloc (.cells #[.int .u64 (x.k : Int)] 40)).drew
  rw [← hw6]
  clear hw6 hheld c6 e0
  refine wpAnyH_ready (rs := [7]) (by kernel_rfl) (by simp) ?_
  refine AllReadyH.cons (o := { dst := some 27, op := _, type := _, pos := _, after := _, guard := _ }) rfl (fun K hK => ?_) AllReadyH.nil
  go_simp
  with_reducible refine HT.out.mono ?_; rintro r w7 ⟨⟨v7, rfl⟩, hp7, hx7⟩; have HP7 := Lib.hid hp7; have HX7 := Lib.hid hx7; have c6 := hp7.cells.2.2.2.2.2.2; have e0 := (hx7.hb HE6.out (Nat.le_succ_of_le HEh.out) (by decide) (by decide)).c 0 rfl; clear hp7 hx7
  refine hK.out _ _ ⟨c6, e0⟩ (fun hHeld => ?_)
  clear hK K
  try simp only [Act.put, List.setIfInBounds_toArray, List.set_cons_zero, List.set_cons_succ]
  refine wpAnyH_done (by kernel_rfl) ?_ _
  refine NoPanic.normal ?_
  have hH7 := HX7.out.hb HH6.out HEh.out (by decide) (by decide)
  have hR7 := HX7.out.hb HR6.out (Nat.le_succ_of_le (Nat.le_succ_of_le HEh.out)) (by decide) (by decide)
  have HR7 := Lib.hid hR7
  have g0 := hH7.c 0 rfl
  have g1 := hH7.c 1 rfl
  obtain ⟨d0, d1, d2, d3, d4, f0, f1, f2, f3, f4⟩ := hR7.paAt ⟨(p, q), (0, 0), false, 0⟩
  clear c6 e0 hHeld HT hH7 hR7
  simp only [noA] at d0 d1 d2 d3 d4
  go_wp2
  clear d0 d1 d2 d3 d4
  have hb := HR7.out.stP ⟨(p, q), (0, 0), false, 0⟩
  have hp := HP7.out.stP HR7.out (Nat.le_succ_of_le (Nat.le_succ_of_le HEh.out)) ⟨(p, q), (0, 0), false, 0⟩
  have hx := ((((Xn.of_ch HC2.out).trans HX3.out).trans (Xn.of_ch HC6.out)).trans HX7.out).stP (B := w.heap.size + 1 + 1) (by omega) ⟨(p, q), (0, 0), false, 0⟩
  have HP8 := Lib.hid hp
  have HX8 := Lib.hid hx
  obtain ⟨k0, k1, k2, k3, k4⟩ := hb.paCells
  change bodyPost _ _ _ _ _ (stP w7 (w.heap.size + 1 + 1) ⟨(p, q), (0, 0), false, 0⟩)
  clear hp hx hb
  generalize stP w7 (w.heap.size + 1 + 1) ⟨(p, q), (0, 0), false, 0⟩ = w8 at *
  refine bodyPost_ret (v := .tuple #[paV ⟨(p, q), (0, 0), false, 0⟩, .int .i64 0]) ?_ rfl ?_
  · simp [results, Tryz.f59, go_sem, k0, k1, k2, k3, k4]
  · exact ⟨rfl, HP8.out, HX8.out⟩

/-- What speaks against one more. -/
def refE (s : MS) (tb : List (Ent (Int × Int))) (how : Int) : Int := if s.kind = 0 then 2 else if how = 2 then 4 else if s.kind = 1 ∧ s.n ≤ tb.length then 3 else if freeN0 s = 0 then 20 else 0
theorem refuses_any (h : XP w b s N tb us) (how : Int) : Calls Tryz.prog 89 #[mp b, .int .i64 how] w fun e w' => e = .returned (.int .i64 (refE s tb how)) ∧ Ch [] w w' := by
  have HF := Lib.hid (full_any h)
  have HRm := Lib.hid (fun W (hW : Ch [] w W) => aE.room_la _ _ _ W (h.quiet hW).la)
  have c0 := h.cells.1
  have H := Lib.hid h
  have c4 := h.cells.2.2.2.2.1
  clear h
  unfold refE
  by_cases h0 : s.kind = 0
  · rw [if_pos h0]
    rw [h0] at c0
    clear h0
    go_enter Tryz.func89, Tryz.ntmps89
    go_wp2
    go_ret
    exact ⟨rfl, Ch.refl _ _⟩
  rw [if_neg h0]
  have hd0 : ((s.kind : Int) == 0) = false := by simp; omega
  by_cases h1 : how = 2
  · rw [if_pos h1]
    subst h1
    go_enter Tryz.func89, Tryz.ntmps89
    go_wp2
    go_ret
    exact ⟨rfl, Ch.refl _ _⟩
  rw [if_neg h1]
  have hd1 : (how == 2) = false := by simpa using h1
  obtain ⟨fr, hfr⟩ : ∃ fr, fr = freeN0 s := ⟨_, rfl⟩
  have HRm := Lib.hid (fun W (hW : Ch [] w W) => (show Calls Tryz.prog 119 #[.pointer (some ⟨b.Ra, 0, none⟩)] W fun e W' => e = .returned (.int .i64 (fr : Int)) ∧ Below W.heap.size W W' from by rw [hfr]; exact HRm.out W hW))
  rw [← hfr]
  have hd9 : ((fr : Int) == 0) = decide (fr = 0) := by
    rw [Bool.eq_iff_iff]; simp
  clear hfr h1
  by_cases h2 : s.kind = 1
  · rw [h2] at c0
    by_cases h3 : s.n ≤ tb.length
    · rw [if_pos ⟨h2, h3⟩]
      rw [decide_eq_true h3] at HF
      clear h0 h2 h3 hd0
      go_enter Tryz.func89, Tryz.ntmps89
      go_wp2_with fail
      with_reducible refine HF.out.mono ?_
      rintro e w' ⟨rfl, hc⟩
      have HC := Lib.hid hc
      clear hc
      go_wp2
      go_ret
      exact ⟨rfl, HC.out⟩
    · rw [if_neg (fun e => h3 e.2)]
      rw [decide_eq_false h3] at HF
      clear h0 h2 h3 hd0
      by_cases h9 : fr = 0
      · rw [if_pos h9]
        subst h9
        go_enter Tryz.func89, Tryz.ntmps89
        go_wp2_with fail
        with_reducible refine HF.out.mono ?_
        rintro e w' ⟨rfl, hc⟩
        have HC := Lib.hid hc
        have HRm1 := Lib.hid (HRm.out w' hc)
        have c44 := (H.out.quiet hc).cells.2.2.2.2.1
        clear hc hd9
        go_wp2_with fail
        with_reducible refine HRm1.out.mono ?_
        rintro e w2 ⟨rfl, hb⟩
        have HB2 := Lib.hid hb
        clear hb
        go_wp2
        go_ret
        exact ⟨rfl, HC.out.trans (Ch.of_below HB2.out)⟩
      · rw [if_neg h9]
        rw [decide_eq_false h9] at hd9
        go_enter Tryz.func89, Tryz.ntmps89
        go_wp2_with fail
        with_reducible refine HF.out.mono ?_
        rintro e w' ⟨rfl, hc⟩
        have HC := Lib.hid hc
        have HRm1 := Lib.hid (HRm.out w' hc)
        have c44 := (H.out.quiet hc).cells.2.2.2.2.1
        clear hc
        go_wp2_with fail
        with_reducible refine HRm1.out.mono ?_
        rintro e w2 ⟨rfl, hb⟩
        have HB2 := Lib.hid hb
        clear hb
        go_wp2
        go_ret
        exact ⟨rfl, HC.out.trans (Ch.of_below HB2.out)⟩
  · rw [if_neg (fun e => h2 e.1)]
    have hd2 : ((s.kind : Int) == 1) = false := by simp; omega
    by_cases h9 : fr = 0
    · rw [if_pos h9]
      subst h9
      clear hd9
      have HRm1 := Lib.hid (HRm.out w (Ch.refl _ _))
      go_enter Tryz.func89, Tryz.ntmps89
      go_wp2_with fail
      with_reducible refine HRm1.out.mono ?_
      rintro e w2 ⟨rfl, hb⟩
      have HB2 := Lib.hid hb
      clear hb
      go_wp2
      go_ret
      exact ⟨rfl, Ch.of_below HB2.out⟩
    · rw [if_neg h9]
      rw [decide_eq_false h9] at hd9
      have HRm1 := Lib.hid (HRm.out w (Ch.refl _ _))
      go_enter Tryz.func89, Tryz.ntmps89
      go_wp2_with fail
      with_reducible refine HRm1.out.mono ?_
      rintro e w2 ⟨rfl, hb⟩
      have HB2 := Lib.hid hb
      clear hb
      go_wp2
      go_ret
      exact ⟨rfl, Ch.of_below HB2.out⟩
end
end Go.Proofs.YtalhlopjaijhcaaGreat

namespace Go.Proofs.YtalhlopjaijhcaaGreat
open Go.RowKit

attribute [local go_sem] Oper.semAt_some

section
variable {w : World} {b : Bk} {s : MS} {N : Nat}
theorem refM_eq (s : MS) (how : Int) : refM s how = refE s s.tb how := rfl
theorem XM.of_xp {w' : World} {t : MS} {M : Nat} (h : XP w' b t M t.tb t.us) (hw : WF t) : XM w' b t M := ⟨hw, h.blk, h.ar, h.tb, h.od, h.lay, h.eh⟩
theorem XP.state {s s' : MS} {tb : List (Ent (Int × Int))} {us : List Nat} (h : XP w b s N tb us) (h1 : s'.kind = s.kind) (h2 : s'.n = s.n) (h3 : s'.wd = s.wd) (h4 : s'.cl = s.cl) (h5 : s'.xs = s.xs) : XP w b s' N tb us := by
  obtain ⟨k, n, wd, cl, xs, tb', us'⟩ := s
  obtain ⟨k', n', wd', cl', xs', tb2, us2⟩ := s'
  simp only at h1 h2 h3 h4 h5
  subst h1 h2 h3 h4 h5
  exact ⟨h.blk, h.ar, h.tb, h.od, h.lay, h.eh⟩
theorem linkM_eq (s : MS) (x : El) : linkM s x = { s with xs := putL s.xs x, tb := ⟨x.k, newH s⟩ :: s.tb, us := useL s.kind s.us x.k } := by
  unfold linkM
  rw [useM_eq]
theorem WF.old {s : MS} (h : WF s) (h2 : s.kind = 2) (hf : s.n ≤ s.tb.length) : ∃ r, s.us = oldM s :: r := by
  have h3 := h.usl h2
  have h4 := h.hn.1
  unfold oldM
  cases hu : s.us with
  | nil => rw [hu] at h3; simp at h3; omega
  | cons k r => exact ⟨r, rfl⟩
/-- Where nothing speaks against it: a slot is free; a full one is an LRU's. -/
theorem refM_zero {s : MS} {how : Int} (hw : WF s) (h : refM s how = 0) : freeN0 s ≠ 0 ∧ s.kind ≠ 0 ∧ how ≠ 2 ∧ (s.n ≤ s.tb.length → s.kind = 2) := by
  unfold refM at h
  have hk := hw.kd
  split at h
  · cases h
  · split at h
    · cases h
    · split at h
      · cases h
      · split at h
        · cases h
        · rename_i h1 h2 h3 h4
          refine ⟨h4, h1, h2, fun h5 => ?_⟩
          have : s.kind ≠ 1 := fun e => h3 ⟨e, h5⟩
          omega
theorem WF.out {s : MS} (h : WF s) (x : El) (hno : x.k ∉ ksE s.tb) (h2 : s.kind = 2) (hf : s.n ≤ s.tb.length) (hfr : freeN0 s ≠ 0) : x.k ∉ ksE (unlinkM s (oldM s)).tb ∧ (unlinkM s (oldM s)).tb.length < s.n ∧ (unlinkM s (oldM s)).us.length < s.n ∧ WF (linkM (unlinkM s (oldM s)) x) := by
  obtain ⟨r, hr⟩ := h.old h2 hf
  have hin : oldM s ∈ ksE s.tb := (h.us2 h2 _).1 (by rw [hr]; simp)
  have hl := del_len h.tnd hin
  have h1 : x.k ∉ ksE (unlinkM s (oldM s)).tb := fun hm => by
    have : x.k ∈ ksE (delE s.tb (oldM s)) := hm
    rw [ks_del] at this
    exact hno (List.mem_filter.1 this).1
  have htl := h.tl
  have h3 : (unlinkM s (oldM s)).tb.length < s.n := by show (delE s.tb (oldM s)).length < s.n; omega
  refine ⟨h1, h3, ?_, (h.unlink _).link x h1 h3 hfr⟩
  have := (h.unlink (oldM s)).usl h2
  rw [this]
  exact h3
theorem addM_wf {s : MS} (h : WF s) (how : Int) (x : El) (hno : x.k ∉ ksE s.tb) : WF (addM s how x).1 := by
  unfold addM
  by_cases h0 : refM s how = 0
  · rw [if_neg (by simpa using h0)]
    obtain ⟨hfr, _, _, h4⟩ := refM_zero h h0
    by_cases hf : s.n ≤ s.tb.length
    · rw [if_pos hf]
      exact (h.out x hno (h4 hf) hf hfr).2.2.2
    · rw [if_neg hf]
      exact h.link x hno (by omega) hfr
  · rw [if_pos h0]; exact h

set_option maxRecDepth 100000 in
set_option maxHeartbeats 4000000 in
theorem add_any (h : XM w b s N) (how : Int) (x : El) (hk : oU.wfK x.k) (hno : x.k ∉ ksE s.tb) (hn : N + 1 ≤ 9223372036854775807) :
    Calls Tryz.prog 60 #[mp b, .int .i64 how, elV x] w fun e w' => e = .returned (.tuple #[paV (addM s how x).2, .int .i64 (addM s how x).2.e]) ∧ XM w' b (addM s how x).1 (N + 1) ∧ Xn b w w' := by
  have HWF := Lib.hid (addM_wf h.wf how x hno)
  have HWs := Lib.hid h.wf
  have HNo := Lib.hid hno
  obtain ⟨w0, hw0⟩ : ∃ w0, w0 = w.alloc (.cells (aE.elC x) 84) := ⟨_, rfl⟩
  obtain ⟨w1, hw1⟩ : ∃ w1, w1 = w0.alloc (.cells (paC noA) 62) := ⟨_, rfl⟩
  have s0 : w0.heap.size = w.heap.size + 1 := by rw [hw0]; simp
  have hc1 : Ch [] w w1 := by rw [hw1, hw0]; exact ((Ch.refl [] w).alloc _).alloc _
  have HC1 := Lib.hid hc1
  have HE1 := Lib.hid (show HB w1 w.heap.size 84 (aE.elC x) by rw [hw1, hw0]; exact (HB.new w _ _).alloc _)
  have HR1 := Lib.hid (show HB w1 (w.heap.size + 1) 62 (paC noA) by rw [hw1, ← s0]; exact HB.new w0 _ _)
  have H1 := Lib.hid (h.xp.quiet hc1)
  have HEh := Lib.hid h.eh
  have HRf := Lib.hid (refuses_any (h.xp.quiet hc1) how)
  have HW := Lib.hid (And.intro hw0 hw1)
  obtain ⟨E, hE⟩ : ∃ E, E = refE s s.tb how := ⟨_, rfl⟩
  rw [← hE] at HRf
  have hEM : refM s how = E := hE.symm
  clear h hc1 hw0 hw1 s0 hno
  by_cases h0 : E = 0
  · obtain ⟨hfr, -, -, h4⟩ := refM_zero HWs.out (hEM.trans h0)
    subst h0
    by_cases hf : s.n ≤ s.tb.length
    · -- put out
      have h2 := h4 hf
      have ea : addM s how x = (linkM (unlinkM s (oldM s)) x, ⟨newH s, (valE s.tb (oldM s)).getD (0, 0), true, 0⟩) := by
        unfold addM
        rw [if_neg (by simpa using hEM), if_pos hf]
      obtain ⟨r, hr⟩ := HWs.out.old h2 hf
      obtain ⟨q1, q2, q3, -⟩ := HWs.out.out x HNo.out h2 hf hfr
      rw [ea] at HWF ⊢
      have HFull := Lib.hid (fun W (hW : Ch [] w1 W) => (decide_eq_true hf) ▸ full_any (H1.out.quiet hW))
      have HOut := Lib.hid (fun W (hW : Ch [] w1 W) => putOut_any (H1.out.quiet hW) h2 hr)
      have HQ := Lib.hid (And.intro q1 (And.intro q2 q3))
      have HK2 := Lib.hid h2
      obtain ⟨⟨p, q⟩, hpq⟩ : ∃ y, y = newH s := ⟨_, rfl⟩
      obtain ⟨⟨gp, gq⟩, hgo⟩ : ∃ y, y = (valE s.tb (oldM s)).getD (0, 0) := ⟨_, rfl⟩
      rw [← hgo] at HOut
      rw [← hpq, ← hgo]
      have HPQ := Lib.hid hpq
      clear h4 hf h2 ea hr q1 q2 q3 hfr hE hEM hpq hgo
      go_enter Tryz.func60, Tryz.ntmps60
      go_wp2_with fail
      have e9 := HW.out.2
      rw [HW.out.1] at e9
      change w1 = ((w.alloc _).alloc (.cells #[.int .i64 0, .int .i64 0, .int .i64 0, .int .i64 0, .bool false] _)) at e9
      rw [← e9]
      clear e9
      with_reducible refine HRf.out.mono ?_
      rintro e w2 ⟨rfl, hc⟩
      obtain ⟨w3, hw3⟩ : ∃ w3, w3 = w2.alloc (.cells (paC noA) 62) := ⟨_, rfl⟩
      have hc3 : Ch [] w1 w3 := by rw [hw3]; exact hc.alloc _
      have HC3 := Lib.hid hc3
      have HF3 := Lib.hid (HFull.out w3 hc3)
      have HP3 := Lib.hid (show HB w3 w2.heap.size 62 (paC noA) by rw [hw3]; exact HB.new w2 _ _)
      have HX2 := Lib.hid (show w.heap.size + 1 < w2.heap.size from (HR1.out.ch hc (by simp)).lt)
      have HW3 := Lib.hid hw3
      obtain ⟨X9, hX9⟩ : ∃ X9, X9 = w2.heap.size := ⟨_, rfl⟩
      have HX9 := Lib.hid hX9
      clear hc hc3 hw3 hX9 HRf
      go_wp2_with fail
      have e9 := HW3.out
      change w3 = w2.alloc (.cells #[.int .i64 0, .int .i64 0, .int .i64 0, .int .i64 0, .bool false] _) at e9
      rw [← e9, ← HX9.out]
      rw [← HX9.out] at HP3 HX2
      clear e9
      with_reducible refine HF3.out.mono ?_
      rintro e w4 ⟨rfl, hc⟩
      have hc4 := HC3.out.trans hc
      have HC4 := Lib.hid hc4
      have HP4 := Lib.hid (HP3.out.ch hc (by simp))
      have HO4 := Lib.hid (HOut.out w4 hc4)
      clear hc hc4 HF3 HFull HOut
      go_wp2_with fail
      with_reducible refine HO4.out.mono ?_
      rintro e w5 ⟨rfl, hp5, hx5⟩
      have HP5 := Lib.hid hp5
      have hE5 := hx5.hb (HE1.out.ch HC4.out (by simp)) HEh.out (by decide) (by decide)
      have hB5 := hx5.hb HP4.out (Nat.le_trans HEh.out (by have := HX2.out; omega)) (by decide) (by decide)
      have HR5 := Lib.hid (hx5.hb (HR1.out.ch HC4.out (by simp)) (Nat.le_succ_of_le HEh.out) (by decide) (by decide))
      have HX5 := Lib.hid (((Xn.of_ch HC1.out).trans (Xn.of_ch HC4.out)).trans hx5)
      have HE5 := Lib.hid hE5
      have HB5 := Lib.hid hB5
      clear hp5 hx5 HO4
      have g2 := hB5.c 2 rfl
      have g3 := (hB5.set 2 (.int .i64 gp)).c 3 rfl
      have g4 := ((hB5.set 2 (.int .i64 gp)).set 3 (.int .i64 gq)).c 4 rfl
      have gf2 := hB5.f 2
      have gf3 := hB5.f 3
      have gf4 := hB5.f 4
      simp only [noA] at g2 g3 g4
      clear hE5 hB5
      go_upto_region 7 with (fail)
      obtain ⟨w6, hw6⟩ : ∃ w6, w6 = ((w5.setCell ⟨X9, 2, none⟩ (.int .i64 gp)).setCell ⟨X9, 3, none⟩ (.int .i64 gq)).setCell ⟨X9, 4, none⟩ (.bool true) := ⟨_, rfl⟩
      have HXe := Lib.hid (show b.Eh ≤ X9 from Nat.le_trans HEh.out (by have := HX2.out; omega))
      have HB6 := Lib.hid (show HB w6 X9 62 (paC ⟨(0, 0), (gp, gq), true, 0⟩) by rw [hw6]; exact ((HB5.out.set 2 (.int .i64 gp)).set 3 (.int .i64 gq)).set 4 (.bool true))
      have n1 : ∀ o, (⟨X9, o, none⟩ : Addr).block ≠ w.heap.size := fun o => by have := HX2.out; show X9 ≠ w.heap.size; omega
      have n2 : ∀ o, (⟨X9, o, none⟩ : Addr).block ≠ w.heap.size + 1 := fun o => by have := HX2.out; show X9 ≠ w.heap.size + 1; omega
      have hE6 : HB w6 w.heap.size 84 (aE.elC x) := by rw [hw6]; exact ((HE5.out.far (n1 2) _).far (n1 3) _).far (n1 4) _
      have HR6 := Lib.hid (show HB w6 (w.heap.size + 1) 62 (paC noA) by rw [hw6]; exact ((HR5.out.far (n2 2) _).far (n2 3) _).far (n2 4) _)
      have HP6 := Lib.hid (show XP w6 b s N (delE s.tb (oldM s)) (drp s.us (oldM s)) by rw [hw6]; exact ((HP5.out.other HB5.out HXe.out (by decide) (by decide) (by decide) 2 (.int .i64 gp)).other (HB5.out.set 2 (.int .i64 gp)) HXe.out (by decide) (by decide) (by decide) 3 (.int .i64 gq)).other ((HB5.out.set 2 (.int .i64 gp)).set 3 (.int .i64 gq)) HXe.out (by decide) (by decide) (by decide) 4 (.bool true))
      have HX6 := Lib.hid (show Xn b w w6 by rw [hw6]; exact ((HX5.out.set (p := ⟨X9, 2, none⟩) (by have := HX2.out; show w.heap.size ≤ X9; omega) _).set (p := ⟨X9, 3, none⟩) (by have := HX2.out; show w.heap.size ≤ X9; omega) _).set (p := ⟨X9, 4, none⟩) (by have := HX2.out; show w.heap.size ≤ X9; omega) _)
      rw [← hw6]
      clear hw6 n1 n2 g2 g3 g4 gf2 gf3 gf4
      have e0 := hE6.c 0 rfl
      have e1 := hE6.c 1 rfl
      have e2 := hE6.c 2 rfl
      have e3 := hE6.c 3 rfl
      have e4 := hE6.c 4 rfl
      clear hE6
      have HQ := Lib.hid (show x.k ∉ ksE (delE s.tb (oldM s)) ∧ (delE s.tb (oldM s)).length < s.n ∧ (s.kind = 2 → x.k ∈ drp s.us (oldM s) ∨ (drp s.us (oldM s)).length < s.n) from ⟨HQ.out.1, HQ.out.2.1, fun _ => .inr HQ.out.2.2⟩)
      obtain ⟨ob, hob⟩ : ∃ ob, ob = true := ⟨_, rfl⟩
      rw [← hob] at HB6 ⊢
      have HOb := Lib.hid hob
      clear hob
      have HT := Lib.hid (link_any HP6.out x hk HQ.out.1 HQ.out.2.1 HQ.out.2.2 hn)
      rw [← HPQ.out] at HT
      go_wp2_with fail
      with_reducible refine HT.out.mono ?_
      rintro e w7 ⟨rfl, hp7, hx7⟩
      have HP7 := Lib.hid hp7
      have HX7 := Lib.hid (HX6.out.trans hx7)
      have h97 := hx7.hb HB6.out HXe.out (by decide) (by decide)
      have HR7 := Lib.hid (hx7.hb HR6.out (Nat.le_succ_of_le HEh.out) (by decide) (by decide))
      have H97 := Lib.hid h97
      have x0 := h97.c 0 rfl
      have x1 := (h97.set 0 (.int .i64 p)).c 1 rfl
      have xf0 := h97.f 0
      have xf1 := h97.f 1
      clear hp7 hx7 h97 HT
      go_upto_region 8 with (fail)
      obtain ⟨w8, hw8⟩ : ∃ w8, w8 = (w7.setCell ⟨X9, 0, none⟩ (.int .i64 p)).setCell ⟨X9, 1, none⟩ (.int .i64 q) := ⟨_, rfl⟩
      have h98 : HB w8 X9 62 (paC ⟨(p, q), (gp, gq), ob, 0⟩) := by rw [hw8]; exact (H97.out.set 0 (.int .i64 p)).set 1 (.int .i64 q)
      have HR8 := Lib.hid (show HB w8 (w.heap.size + 1) 62 (paC noA) by rw [hw8]; exact (HR7.out.far (p := ⟨X9, 0, none⟩) (by have := HX2.out; show X9 ≠ w.heap.size + 1; omega) _).far (p := ⟨X9, 1, none⟩) (by have := HX2.out; show X9 ≠ w.heap.size + 1; omega) _)
      have HP8 := Lib.hid (show XP w8 b _ (N + 1) _ _ by rw [hw8]; exact (HP7.out.other H97.out HXe.out (by decide) (by decide) (by decide) 0 (.int .i64 p)).other (H97.out.set 0 (.int .i64 p)) HXe.out (by decide) (by decide) (by decide) 1 (.int .i64 q))
      have HX8 := Lib.hid (show Xn b w w8 by rw [hw8]; exact (HX7.out.set (p := ⟨X9, 0, none⟩) (by have := HX2.out; show w.heap.size ≤ X9; omega) _).set (p := ⟨X9, 1, none⟩) (by have := HX2.out; show w.heap.size ≤ X9; omega) _)
      rw [← hw8]
      obtain ⟨a0, a1, a2, a3, a4⟩ := h98.paCells
      obtain ⟨d0, d1, d2, d3, d4, f0, f1, f2, f3, f4⟩ := HR8.out.paAt ⟨(p, q), (gp, gq), ob, 0⟩
      simp only [noA] at d0 d1 d2 d3 d4
      clear hw8 h98 x0 x1 xf0 xf1
      go_wp2
      clear d0 d1 d2 d3 d4
      have hb := HR8.out.stP ⟨(p, q), (gp, gq), ob, 0⟩
      have HP9 := Lib.hid (HP8.out.stP HR8.out (Nat.le_succ_of_le HEh.out) ⟨(p, q), (gp, gq), ob, 0⟩)
      have HX9z := Lib.hid (HX8.out.stP (B := w.heap.size + 1) (by omega) ⟨(p, q), (gp, gq), ob, 0⟩)
      obtain ⟨k0, k1, k2, k3, k4⟩ := hb.paCells
      change bodyPost _ _ _ _ _ (stP w8 (w.heap.size + 1) ⟨(p, q), (gp, gq), ob, 0⟩)
      clear hb a0 a1 a2 a3 a4
      generalize stP w8 (w.heap.size + 1) ⟨(p, q), (gp, gq), ob, 0⟩ = w9 at *
      refine bodyPost_ret (v := .tuple #[paV ⟨(p, q), (gp, gq), ob, 0⟩, .int .i64 0]) ?_ rfl ?_
      · simp [results, Tryz.f60, go_sem, k0, k1, k2, k3, k4]
      · rw [HOb.out]
        refine ⟨rfl, ?_, HX9z.out⟩
        have hp := HP9.out
        rw [HPQ.out] at hp
        have hw := HWF.out
        rw [linkM_eq] at hw ⊢
        exact XM.of_xp (hp.state rfl rfl rfl rfl rfl) hw
    · have ea : addM s how x = (linkM s x, ⟨newH s, (0, 0), false, 0⟩) := by
        unfold addM
        rw [if_neg (by simpa using hEM), if_neg hf]
      rw [ea] at HWF ⊢
      have HFull := Lib.hid (fun W (hW : Ch [] w1 W) => (decide_eq_false hf) ▸ full_any (H1.out.quiet hW))
      have HQ := Lib.hid (show x.k ∉ ksE s.tb ∧ s.tb.length < s.n ∧ (s.kind = 2 → x.k ∈ s.us ∨ s.us.length < s.n) from ⟨HNo.out, by omega, fun e => .inr (by rw [HWs.out.usl e]; omega)⟩)
      obtain ⟨⟨p, q⟩, hpq⟩ : ∃ y, y = newH s := ⟨_, rfl⟩
      rw [← hpq]
      have HPQ := Lib.hid hpq
      clear h4 hf ea hfr hE hEM hpq
      go_enter Tryz.func60, Tryz.ntmps60
      go_wp2_with fail
      have e9 := HW.out.2
      rw [HW.out.1] at e9
      change w1 = ((w.alloc _).alloc (.cells #[.int .i64 0, .int .i64 0, .int .i64 0, .int .i64 0, .bool false] _)) at e9
      rw [← e9]
      clear e9
      with_reducible refine HRf.out.mono ?_
      rintro e w2 ⟨rfl, hc⟩
      obtain ⟨w3, hw3⟩ : ∃ w3, w3 = w2.alloc (.cells (paC noA) 62) := ⟨_, rfl⟩
      have hc3 : Ch [] w1 w3 := by rw [hw3]; exact hc.alloc _
      have HC3 := Lib.hid hc3
      have HF3 := Lib.hid (HFull.out w3 hc3)
      have HP3 := Lib.hid (show HB w3 w2.heap.size 62 (paC noA) by rw [hw3]; exact HB.new w2 _ _)
      have HX2 := Lib.hid (show w.heap.size + 1 < w2.heap.size from (HR1.out.ch hc (by simp)).lt)
      have HW3 := Lib.hid hw3
      obtain ⟨X9, hX9⟩ : ∃ X9, X9 = w2.heap.size := ⟨_, rfl⟩
      have HX9 := Lib.hid hX9
      clear hc hc3 hw3 hX9 HRf
      go_wp2_with fail
      have e9 := HW3.out
      change w3 = w2.alloc (.cells #[.int .i64 0, .int .i64 0, .int .i64 0, .int .i64 0, .bool false] _) at e9
      rw [← e9, ← HX9.out]
      rw [← HX9.out] at HP3 HX2
      clear e9
      with_reducible refine HF3.out.mono ?_
      rintro e w6 ⟨rfl, hc⟩
      have hc4 := HC3.out.trans hc
      obtain ⟨ob, hob⟩ : ∃ ob, ob = false := ⟨_, rfl⟩
      obtain ⟨gp, hgp⟩ : ∃ g : Int, g = 0 := ⟨_, rfl⟩
      obtain ⟨gq, hgq⟩ : ∃ g : Int, g = 0 := ⟨_, rfl⟩
      have HXe := Lib.hid (show b.Eh ≤ X9 from Nat.le_trans HEh.out (by have := HX2.out; omega))
      have HB6 := Lib.hid (show HB w6 X9 62 (paC ⟨(0, 0), (gp, gq), ob, 0⟩) by rw [hob, hgp, hgq]; exact HP3.out.ch hc (by simp))
      have HG := Lib.hid (And.intro hob (And.intro hgp hgq))
      have hE6 := HE1.out.ch hc4 (by simp)
      have HR6 := Lib.hid (HR1.out.ch hc4 (by simp))
      have HP6 := Lib.hid (H1.out.quiet hc4)
      have HX6 := Lib.hid ((Xn.of_ch (b := b) HC1.out).trans (Xn.of_ch hc4))
      have e0 := hE6.c 0 rfl
      have e1 := hE6.c 1 rfl
      have e2 := hE6.c 2 rfl
      have e3 := hE6.c 3 rfl
      have e4 := hE6.c 4 rfl
      clear hE6 hc hc4 hob hgp hgq HF3 HFull
      have HT := Lib.hid (link_any HP6.out x hk HQ.out.1 HQ.out.2.1 HQ.out.2.2 hn)
      rw [← HPQ.out] at HT
      go_wp2_with fail
      with_reducible refine HT.out.mono ?_
      rintro e w7 ⟨rfl, hp7, hx7⟩
      have HP7 := Lib.hid hp7
      have HX7 := Lib.hid (HX6.out.trans hx7)
      have h97 := hx7.hb HB6.out HXe.out (by decide) (by decide)
      have HR7 := Lib.hid (hx7.hb HR6.out (Nat.le_succ_of_le HEh.out) (by decide) (by decide))
      have H97 := Lib.hid h97
      have x0 := h97.c 0 rfl
      have x1 := (h97.set 0 (.int .i64 p)).c 1 rfl
      have xf0 := h97.f 0
      have xf1 := h97.f 1
      clear hp7 hx7 h97 HT
      go_upto_region 8 with (fail)
      obtain ⟨w8, hw8⟩ : ∃ w8, w8 = (w7.setCell ⟨X9, 0, none⟩ (.int .i64 p)).setCell ⟨X9, 1, none⟩ (.int .i64 q) := ⟨_, rfl⟩
      have h98 : HB w8 X9 62 (paC ⟨(p, q), (gp, gq), ob, 0⟩) := by rw [hw8]; exact (H97.out.set 0 (.int .i64 p)).set 1 (.int .i64 q)
      have HR8 := Lib.hid (show HB w8 (w.heap.size + 1) 62 (paC noA) by rw [hw8]; exact (HR7.out.far (p := ⟨X9, 0, none⟩) (by have := HX2.out; show X9 ≠ w.heap.size + 1; omega) _).far (p := ⟨X9, 1, none⟩) (by have := HX2.out; show X9 ≠ w.heap.size + 1; omega) _)
      have HP8 := Lib.hid (show XP w8 b _ (N + 1) _ _ by rw [hw8]; exact (HP7.out.other H97.out HXe.out (by decide) (by decide) (by decide) 0 (.int .i64 p)).other (H97.out.set 0 (.int .i64 p)) HXe.out (by decide) (by decide) (by decide) 1 (.int .i64 q))
      have HX8 := Lib.hid (show Xn b w w8 by rw [hw8]; exact (HX7.out.set (p := ⟨X9, 0, none⟩) (by have := HX2.out; show w.heap.size ≤ X9; omega) _).set (p := ⟨X9, 1, none⟩) (by have := HX2.out; show w.heap.size ≤ X9; omega) _)
      rw [← hw8]
      obtain ⟨a0, a1, a2, a3, a4⟩ := h98.paCells
      obtain ⟨d0, d1, d2, d3, d4, f0, f1, f2, f3, f4⟩ := HR8.out.paAt ⟨(p, q), (gp, gq), ob, 0⟩
      simp only [noA] at d0 d1 d2 d3 d4
      clear hw8 h98 x0 x1 xf0 xf1
      go_wp2
      clear d0 d1 d2 d3 d4
      have hb := HR8.out.stP ⟨(p, q), (gp, gq), ob, 0⟩
      have HP9 := Lib.hid (HP8.out.stP HR8.out (Nat.le_succ_of_le HEh.out) ⟨(p, q), (gp, gq), ob, 0⟩)
      have HX9z := Lib.hid (HX8.out.stP (B := w.heap.size + 1) (by omega) ⟨(p, q), (gp, gq), ob, 0⟩)
      obtain ⟨k0, k1, k2, k3, k4⟩ := hb.paCells
      change bodyPost _ _ _ _ _ (stP w8 (w.heap.size + 1) ⟨(p, q), (gp, gq), ob, 0⟩)
      clear hb a0 a1 a2 a3 a4
      generalize stP w8 (w.heap.size + 1) ⟨(p, q), (gp, gq), ob, 0⟩ = w9 at *
      refine bodyPost_ret (v := .tuple #[paV ⟨(p, q), (gp, gq), ob, 0⟩, .int .i64 0]) ?_ rfl ?_
      · simp [results, Tryz.f60, go_sem, k0, k1, k2, k3, k4]
      · rw [HG.out.1, HG.out.2.1, HG.out.2.2]
        refine ⟨rfl, ?_, HX9z.out⟩
        have hp := HP9.out
        rw [HPQ.out] at hp
        have hw := HWF.out
        rw [linkM_eq] at hw ⊢
        exact XM.of_xp (hp.state rfl rfl rfl rfl rfl) hw
  · have ea : addM s how x = (s, noPut E) := by
      unfold addM
      rw [hEM, if_pos h0]
    rw [ea]
    have hd : (E != 0) = true := by simpa using h0
    clear ea hE hEM HWF h0
    go_enter Tryz.func60, Tryz.ntmps60
    go_wp2_with fail
    have e9 := HW.out.2
    rw [HW.out.1] at e9
    change w1 = ((w.alloc _).alloc (.cells #[.int .i64 0, .int .i64 0, .int .i64 0, .int .i64 0, .bool false] _)) at e9
    rw [← e9]
    clear e9
    with_reducible refine HRf.out.mono ?_
    rintro e w2 ⟨rfl, hc⟩
    have HP2 := Lib.hid (H1.out.quiet hc)
    have HC2 := Lib.hid hc
    have HR2 := Lib.hid (HR1.out.ch hc (by simp))
    obtain ⟨d0, d1, d2, d3, d4, f0, f1, f2, f3, f4⟩ := HR2.out.paAt noA
    simp only [noA] at d0 d1 d2 d3 d4
    clear hc HRf
    go_wp2
    clear d0 d1 d2 d3 d4
    have hb := HR2.out.stP noA
    have HP9 := Lib.hid (HP2.out.stP HR2.out (Nat.le_succ_of_le HEh.out) noA)
    have HX9z := Lib.hid ((((Xn.of_ch (b := b) HC1.out).trans (Xn.of_ch HC2.out))).stP (B := w.heap.size + 1) (by omega) noA)
    obtain ⟨k0, k1, k2, k3, k4⟩ := hb.paCells
    change bodyPost _ _ _ _ _ (stP w2 (w.heap.size + 1) noA)
    clear hb
    generalize stP w2 (w.heap.size + 1) noA = w9 at *
    refine bodyPost_ret (v := .tuple #[paV (noPut E), .int .i64 E]) ?_ rfl ?_
    · simp [results, Tryz.f60, go_sem, k0, k1, k2, k3, k4]
      exact ⟨rfl, rfl, rfl, rfl, rfl⟩
    · exact ⟨rfl, (XM.of_xp HP9.out HWs.out).mono (Nat.le_succ _), HX9z.out⟩
end
end Go.Proofs.YtalhlopjaijhcaaGreat

/-
  IsaApart: a part (both instructions, as the program's).
-/
import Derived.Test.YtgldkalagmjkfaaDoorIsP
import Derived.Deep.RegionHeld3
import Derived.Deep.CutBlock
namespace Go.Proofs.YtgldkalagmjkfaaDoor
open Go.RowKit Go.Lib

attribute [local go_sem] Oper.semAt_some

def z5 : I5 := ⟨0, 0, 0, 0, 0⟩
/-- An instruction stored over another one. -/
def st5 (w : World) (U : Nat) (x : I5) : World := ((((w.setCell ⟨U, 0, none⟩ (.int .i64 x.op)).setCell ⟨U, 1, none⟩ (.int .i64 x.d)).setCell ⟨U, 2, none⟩ (.int .i64 x.s)).setCell ⟨U, 3, none⟩ (.int .i64 x.o)).setCell ⟨U, 4, none⟩ (.int .i64 x.i)
theorem st5_five {w : World} {U : Nat} {y : I5} (h : Five w U y) (x : I5) : Five (st5 w U x) U x := by
  have n : ∀ {a b : Nat}, a ≠ b → (⟨U, a, none⟩ : Addr) ≠ ⟨U, b, none⟩ := fun h => addr_ne_off h
  refine ⟨?_, ?_, ?_, ?_, ?_⟩
  · exact setCell_other (setCell_other (setCell_other (setCell_other (setCell_same h.c0) (n (by decide))) (n (by decide))) (n (by decide))) (n (by decide))
  · exact setCell_other (setCell_other (setCell_other (setCell_same (setCell_other h.c1 (n (by decide)))) (n (by decide))) (n (by decide))) (n (by decide))
  · exact setCell_other (setCell_other (setCell_same (setCell_other (setCell_other h.c2 (n (by decide))) (n (by decide)))) (n (by decide))) (n (by decide))
  · exact setCell_other (setCell_same (setCell_other (setCell_other (setCell_other h.c3 (n (by decide))) (n (by decide))) (n (by decide)))) (n (by decide))
  · exact setCell_same (setCell_other (setCell_other (setCell_other (setCell_other h.c4 (n (by decide))) (n (by decide))) (n (by decide))) (n (by decide)))
theorem st5_ch {a w : World} {U : Nat} (h : Ch [] a w) (hU : a.heap.size ≤ U) (x : I5) : Ch [] a (st5 w U x) :=
  chSetNew (chSetNew (chSetNew (chSetNew (chSetNew h hU _) hU _) hU _) hU _) hU _
theorem st5_other {w : World} {U B : Nat} {y : I5} (h : Five w B y) (hne : U ≠ B) (x : I5) : Five (st5 w U x) B y := by
  have n : ∀ (a b : Nat), (⟨U, a, none⟩ : Addr) ≠ ⟨B, b, none⟩ := fun _ _ => addr_ne_block hne
  refine ⟨?_, ?_, ?_, ?_, ?_⟩
  · exact setCell_other (setCell_other (setCell_other (setCell_other (setCell_other h.c0 (n _ _)) (n _ _)) (n _ _)) (n _ _)) (n _ _)
  · exact setCell_other (setCell_other (setCell_other (setCell_other (setCell_other h.c1 (n _ _)) (n _ _)) (n _ _)) (n _ _)) (n _ _)
  · exact setCell_other (setCell_other (setCell_other (setCell_other (setCell_other h.c2 (n _ _)) (n _ _)) (n _ _)) (n _ _)) (n _ _)
  · exact setCell_other (setCell_other (setCell_other (setCell_other (setCell_other h.c3 (n _ _)) (n _ _)) (n _ _)) (n _ _)) (n _ _)
  · exact setCell_other (setCell_other (setCell_other (setCell_other (setCell_other h.c4 (n _ _)) (n _ _)) (n _ _)) (n _ _)) (n _ _)
/-- A block of the call's own that holds an instruction and may be written. -/
structure Own5 (a w : World) (P : Nat) (x : I5) : Prop where
  five : Five w P x
  fr : ∀ j, w.frozen? ⟨P, j, none⟩ = false
  lo : a.heap.size ≤ P
theorem Own5.ch {a w w' : World} {P : Nat} {x : I5} (h : Own5 a w P x) (hc : Ch [] w w') : Own5 a w' P x :=
  ⟨h.five.ch hc (by simp), fun j => (hc.frozen (p := ⟨P, j, none⟩) h.five.lt (by simp)).trans (h.fr j), h.lo⟩
theorem Own5.new {a w : World} (hc : Ch [] a w) (t : TypeId) : Own5 a (w.alloc (.cells #[.int .i64 0, .int .i64 0, .int .i64 0, .int .i64 0, .int .i64 0] t)) w.heap.size z5 :=
  ⟨Five.new w z5 t, fun _ => World.frozen?_alloc_new w _ _ _, hc.size⟩
theorem Own5.st {a w : World} {U P : Nat} {x y : I5} (h : Own5 a w P y) (hne : U ≠ P) : Own5 a (st5 w U x) P y :=
  ⟨st5_other h.five hne x, fun j => by have := h.fr j; simpa [st5] using this, h.lo⟩

set_option maxRecDepth 100000 in
set_option maxHeartbeats 4000000 in
theorem apart1 {w3 : World} {B C : Nat} {x y : I5} (hB : Five w3 B x) (hC : Five w3 C y)
    {u0 u1 u4 u5 u6 u7 u8 u9 u10 u11 u12 u13 u14 u15 u16 u17 u18 u19 u20 u21 u22 u23 u24 u25 u26 u27 u28 u29 u30 u31 u32 u33 u34 u35 u36 u37 u38 u39 u40 u41 u42 u43 u44 u45 u46 u47 u48 u49 u50 u51 u52 u53 u54 u55 u56 u57 u58 u59 u60 u61 u62 u63 u64 u65 u66 u67 u68 u69 u70 u71 u72 u73 u74 u75 u76 u77 u78 u79 u80 u81 u82 u83 u84 u85 : Value} {Q : Exit → Act → World → Prop}
    (hQ : ∀ ⦃x5 x6 x13 x14 x15 x16 : Value⦄ ⦃wq : World⦄, (∃ P Q, x5 = .pointer (some ⟨P, 0, none⟩) ∧ x6 = .pointer (some ⟨Q, 0, none⟩) ∧ Five wq P x ∧ Five wq Q y ∧ Ch [] w3 wq) → Q .normal { tmps := #[u0, u1, .pointer (some ⟨B, 0, none⟩), .pointer (some ⟨C, 0, none⟩), u4, x5, x6, u7, u8, u9, u10, u11, u12, x13, x14, x15, x16, u17, u18, u19, u20, u21, u22, u23, u24, u25, u26, u27, u28, u29, u30, u31, u32, u33, u34, u35, u36, u37, u38, u39, u40, u41, u42, u43, u44, u45, u46, u47, u48, u49, u50, u51, u52, u53, u54, u55, u56, u57, u58, u59, u60, u61, u62, u63, u64, u65, u66, u67, u68, u69, u70, u71, u72, u73, u74, u75, u76, u77, u78, u79, u80, u81, u82, u83, u84, u85], defers := [] } wq) :
    Code.wp Tryd.prog (codeOf [1, 0] (Tryd.f7.body.getD .skip)) Q { tmps := #[u0, u1, .pointer (some ⟨B, 0, none⟩), .pointer (some ⟨C, 0, none⟩), u4, u5, u6, u7, u8, u9, u10, u11, u12, u13, u14, u15, u16, u17, u18, u19, u20, u21, u22, u23, u24, u25, u26, u27, u28, u29, u30, u31, u32, u33, u34, u35, u36, u37, u38, u39, u40, u41, u42, u43, u44, u45, u46, u47, u48, u49, u50, u51, u52, u53, u54, u55, u56, u57, u58, u59, u60, u61, u62, u63, u64, u65, u66, u67, u68, u69, u70, u71, u72, u73, u74, u75, u76, u77, u78, u79, u80, u81, u82, u83, u84, u85], defers := [] } w3 := by
  simp only [codeOf, Tryd.f7, Option.getD_some]
  have HS := Lib.hid (And.intro (hB.ch (Ch.refl [] w3).drew (by simp)) (hC.ch (Ch.refl [] w3).drew (by simp)))
  have HC := Lib.hid (Ch.refl [] w3).drew
  have HBC := Lib.hid (And.intro hB.lt hC.lt)
  have HQ0 := Lib.hid hQ
  have HTx := Lib.hid (fun w => to_any x w)
  have HTy := Lib.hid (fun w => to_any y w)
  obtain ⟨op, d, s, o, i⟩ := x
  obtain ⟨op', d', s', o', i'⟩ := y
  unfold iv at HTx HTy
  simp only at HTx HTy
  clear hB hC hQ
  refine wp_region_noPanic ?_
  refine wp_region_held_drew (S := fun w' => Five w' B ⟨op, d, s, o, i⟩ ∧ Five w' C ⟨op', d', s', o', i'⟩) (by kernel_rfl) HS.out (fun hHeld => ?_)
  generalize w3.drew = wd at *
  refine wpAnyH_take (i := 0) (oi := { dst := some 13, op := _, type := _, pos := _, after := _, guard := _ }) (v := ?v1) rfl (by kernel_rfl) (by kernel_rfl) (by kernel_rfl) (fun _ _ _ h => h) (.inl ⟨by rfl, ?h1⟩) (by assumption) ?_
  case h1 => intro w hSw; obtain ⟨⟨s0, s1, s2, s3, s4⟩, ⟨t0, t1, t2, t3, t4⟩⟩ := hSw; simp only at s0 s1 s2 s3 s4 t0 t1 t2 t3 t4; go_simp; (try with_reducible rfl)
  try simp only [Act.put, List.setIfInBounds_toArray, List.set_cons_zero, List.set_cons_succ]
  refine wpAnyH_take (i := 2) (oi := { dst := some 15, op := _, type := _, pos := _, after := _, guard := _ }) (v := ?v2) rfl (by kernel_rfl) (by kernel_rfl) (by kernel_rfl) (fun _ _ _ h => h) (.inl ⟨by rfl, ?h2⟩) (by assumption) ?_
  case h2 => intro w hSw; obtain ⟨⟨s0, s1, s2, s3, s4⟩, ⟨t0, t1, t2, t3, t4⟩⟩ := hSw; simp only at s0 s1 s2 s3 s4 t0 t1 t2 t3 t4; go_simp; (try with_reducible rfl)
  try simp only [Act.put, List.setIfInBounds_toArray, List.set_cons_zero, List.set_cons_succ]
  refine wpAnyH_ready (rs := [1, 4, 5]) (by kernel_rfl) (by simp) ?_
  refine (AllReadyH.cons (o := { dst := some 14, op := _, type := _, pos := _, after := _, guard := _ }) rfl (fun K hK => ?_) (AllReadyH.cons (o := { dst := some 5, op := _, type := _, pos := _, after := _, guard := _ }) rfl (fun K hK => ?_) (AllReadyH.cons (o := { dst := some 6, op := _, type := _, pos := _, after := _, guard := _ }) rfl (fun K hK => ?_) AllReadyH.nil)))
  · go_simp
    with_reducible refine (HTx.out _).mono ?_
    rintro e w4 ⟨rfl, hc⟩
    have HCn := Lib.hid (HC.out.trans hc)
    have HSn := Lib.hid (And.intro (HS.out.1.ch hc (by simp)) (HS.out.2.ch hc (by simp)))
    clear hc HC HS
    have HC := HCn; clear HCn
    have HS := HSn; clear HSn
    (try go_wp2_with fail)
    refine hK.out _ _ HS.out (fun hHeld => ?_)
    clear hK K
    try simp only [Act.put, List.setIfInBounds_toArray, List.set_cons_zero, List.set_cons_succ]
    refine wpAnyH_ready (rs := [3, 4, 5]) (by kernel_rfl) (by simp) ?_
    refine (AllReadyH.cons (o := { dst := some 16, op := _, type := _, pos := _, after := _, guard := _ }) rfl (fun K hK => ?_) (AllReadyH.cons (o := { dst := some 5, op := _, type := _, pos := _, after := _, guard := _ }) rfl (fun K hK => ?_) (AllReadyH.cons (o := { dst := some 6, op := _, type := _, pos := _, after := _, guard := _ }) rfl (fun K hK => ?_) AllReadyH.nil)))
    · go_simp
      with_reducible refine (HTy.out _).mono ?_
      rintro e w5 ⟨rfl, hc⟩
      have HCn := Lib.hid (HC.out.trans hc)
      have HSn := Lib.hid (And.intro (HS.out.1.ch hc (by simp)) (HS.out.2.ch hc (by simp)))
      clear hc HC HS
      have HC := HCn; clear HCn
      have HS := HSn; clear HSn
      (try go_wp2_with fail)
      refine hK.out _ _ HS.out (fun hHeld => ?_)
      clear hK K
      try simp only [Act.put, List.setIfInBounds_toArray, List.set_cons_zero, List.set_cons_succ]
      refine wpAnyH_ready (rs := [4, 5]) (by kernel_rfl) (by simp) ?_
      refine (AllReadyH.cons (o := { dst := some 5, op := _, type := _, pos := _, after := _, guard := _ }) rfl (fun K hK => ?_) (AllReadyH.cons (o := { dst := some 6, op := _, type := _, pos := _, after := _, guard := _ }) rfl (fun K hK => ?_) AllReadyH.nil))
      · go_simp
        have hc := (Ch.refl [] w5).alloc (.cells #[.int .i64 0, .int .i64 0, .int .i64 0, .int .i64 0, .int .i64 0] 34)
        have HCn := Lib.hid (HC.out.trans hc)
        have HSn := Lib.hid (And.intro (HS.out.1.ch hc (by simp)) (HS.out.2.ch hc (by simp)))
        have HNn := Lib.hid (Own5.new HC.out 34)
        refine hK.out _ _ HSn.out (fun hHeld => ?_)
        clear hK K
        try simp only [Act.put, List.setIfInBounds_toArray, List.set_cons_zero, List.set_cons_succ]
        clear hc HC HS
        generalize (w5.alloc (.cells #[.int .i64 0, .int .i64 0, .int .i64 0, .int .i64 0, .int .i64 0] 34)) = w6 at *
        generalize w5.heap.size = pw6 at *
        have HC := HCn; clear HCn
        have HS := HSn; clear HSn
        have HP := HNn; clear HNn
        refine wpAnyH_ready (rs := [5]) (by kernel_rfl) (by simp) ?_
        refine (AllReadyH.cons (o := { dst := some 6, op := _, type := _, pos := _, after := _, guard := _ }) rfl (fun K hK => ?_) AllReadyH.nil)
        go_simp
        have hc := (Ch.refl [] w6).alloc (.cells #[.int .i64 0, .int .i64 0, .int .i64 0, .int .i64 0, .int .i64 0] 34)
        have HCn := Lib.hid (HC.out.trans hc)
        have HSn := Lib.hid (And.intro (HS.out.1.ch hc (by simp)) (HS.out.2.ch hc (by simp)))
        have HPn := Lib.hid (HP.out.ch hc)
        have HNn := Lib.hid (Own5.new HC.out 34)
        have HAp := Lib.hid (show pw6 ≠ w6.heap.size from Nat.ne_of_lt HP.out.five.lt)
        refine hK.out _ _ HSn.out (fun hHeld => ?_)
        clear hK K
        try simp only [Act.put, List.setIfInBounds_toArray, List.set_cons_zero, List.set_cons_succ]
        clear hc HC HS HP
        generalize (w6.alloc (.cells #[.int .i64 0, .int .i64 0, .int .i64 0, .int .i64 0, .int .i64 0] 34)) = w7 at *
        generalize w6.heap.size = qw7 at *
        have HC := HCn; clear HCn
        have HS := HSn; clear HSn
        have HP := HPn; clear HPn
        have HQ := HNn; clear HNn
        refine wpAnyH_ready (rs := [6]) (by kernel_rfl) (by simp) ?_
        refine (AllReadyH.cons (o := { dst := none, op := _, type := _, pos := _, after := _, guard := _ }) rfl (fun K hK => ?_) AllReadyH.nil)
        have q0 := HP.out.five.c0; have q1 := HP.out.five.c1; have q2 := HP.out.five.c2; have q3 := HP.out.five.c3; have q4 := HP.out.five.c4; have qf := HP.out.fr
        unfold z5 at q0 q1 q2 q3 q4
        simp only at q0 q1 q2 q3 q4
        go_simp
        have HFa := Lib.hid (st5_five HP.out.five ⟨op, d, s, o, i⟩)
        have HCn := Lib.hid (st5_ch HC.out HP.out.lo ⟨op, d, s, o, i⟩)
        have HSn := Lib.hid (And.intro (st5_other HS.out.1 (show pw6 ≠ B by have := HP.out.lo; have := HBC.out; omega) ⟨op, d, s, o, i⟩) (st5_other HS.out.2 (show pw6 ≠ C by have := HP.out.lo; have := HBC.out; omega) ⟨op, d, s, o, i⟩))
        have HQn := Lib.hid (HQ.out.st (U := pw6) (x := ⟨op, d, s, o, i⟩) (show pw6 ≠ qw7 by have := HAp.out; omega))
        refine hK.out _ _ HSn.out (fun hHeld => ?_)
        clear hK K
        try simp only [Act.put, List.setIfInBounds_toArray, List.set_cons_zero, List.set_cons_succ]
        clear HC HS HP HQ q0 q1 q2 q3 q4 qf
        have hst : st5 w7 pw6 ⟨op, d, s, o, i⟩ = st5 w7 pw6 ⟨op, d, s, o, i⟩ := rfl
        unfold st5 at hst
        change wpAnyH _ _ _ _ _ _ _ _ (st5 w7 pw6 ⟨op, d, s, o, i⟩)
        clear hst
        generalize st5 w7 pw6 ⟨op, d, s, o, i⟩ = w8 at *
        have HC := HCn; clear HCn
        have HS := HSn; clear HSn
        have HQ := HQn; clear HQn
        refine wpAnyH_ready (rs := [7]) (by kernel_rfl) (by simp) ?_
        refine (AllReadyH.cons (o := { dst := none, op := _, type := _, pos := _, after := _, guard := _ }) rfl (fun K hK => ?_) AllReadyH.nil)
        have q0 := HQ.out.five.c0; have q1 := HQ.out.five.c1; have q2 := HQ.out.five.c2; have q3 := HQ.out.five.c3; have q4 := HQ.out.five.c4; have qf := HQ.out.fr
        unfold z5 at q0 q1 q2 q3 q4
        simp only at q0 q1 q2 q3 q4
        go_simp
        have HFb := Lib.hid (st5_five HQ.out.five ⟨op', d', s', o', i'⟩)
        have HCz := Lib.hid (st5_ch HC.out HQ.out.lo ⟨op', d', s', o', i'⟩)
        have HSn := Lib.hid (And.intro (st5_other HS.out.1 (show qw7 ≠ B by have := HQ.out.lo; have := HBC.out; omega) ⟨op', d', s', o', i'⟩) (st5_other HS.out.2 (show qw7 ≠ C by have := HQ.out.lo; have := HBC.out; omega) ⟨op', d', s', o', i'⟩))
        have HFa2 := Lib.hid (st5_other HFa.out (show qw7 ≠ pw6 by have := HAp.out; omega) ⟨op', d', s', o', i'⟩)
        refine hK.out _ _ HSn.out (fun hHeld => ?_)
        clear hK K HFa
        have HFa := HFa2; clear HFa2
        try simp only [Act.put, List.setIfInBounds_toArray, List.set_cons_zero, List.set_cons_succ]
        refine wpAnyH_done (by kernel_rfl) ?_ _
        refine NoPanic.normal ?_
        exact HQ0.out ⟨pw6, qw7, rfl, rfl, HFa.out, HFb.out, HCz.out⟩
      · go_simp
        have hc := (Ch.refl [] w5).alloc (.cells #[.int .i64 0, .int .i64 0, .int .i64 0, .int .i64 0, .int .i64 0] 34)
        have HCn := Lib.hid (HC.out.trans hc)
        have HSn := Lib.hid (And.intro (HS.out.1.ch hc (by simp)) (HS.out.2.ch hc (by simp)))
        have HNn := Lib.hid (Own5.new HC.out 34)
        refine hK.out _ _ HSn.out (fun hHeld => ?_)
        clear hK K
        try simp only [Act.put, List.setIfInBounds_toArray, List.set_cons_zero, List.set_cons_succ]
        clear hc HC HS
        generalize (w5.alloc (.cells #[.int .i64 0, .int .i64 0, .int .i64 0, .int .i64 0, .int .i64 0] 34)) = w10 at *
        generalize w5.heap.size = qw10 at *
        have HC := HCn; clear HCn
        have HS := HSn; clear HSn
        have HQ := HNn; clear HNn
        refine wpAnyH_ready (rs := [4]) (by kernel_rfl) (by simp) ?_
        refine (AllReadyH.cons (o := { dst := some 5, op := _, type := _, pos := _, after := _, guard := _ }) rfl (fun K hK => ?_) AllReadyH.nil)
        go_simp
        have hc := (Ch.refl [] w10).alloc (.cells #[.int .i64 0, .int .i64 0, .int .i64 0, .int .i64 0, .int .i64 0] 34)
        have HCn := Lib.hid (HC.out.trans hc)
        have HSn := Lib.hid (And.intro (HS.out.1.ch hc (by simp)) (HS.out.2.ch hc (by simp)))
        have HQn := Lib.hid (HQ.out.ch hc)
        have HNn := Lib.hid (Own5.new HC.out 34)
        have HAp := Lib.hid (show qw10 ≠ w10.heap.size from Nat.ne_of_lt HQ.out.five.lt)
        refine hK.out _ _ HSn.out (fun hHeld => ?_)
        clear hK K
        try simp only [Act.put, List.setIfInBounds_toArray, List.set_cons_zero, List.set_cons_succ]
        clear hc HC HS HQ
        generalize (w10.alloc (.cells #[.int .i64 0, .int .i64 0, .int .i64 0, .int .i64 0, .int .i64 0] 34)) = w11 at *
        generalize w10.heap.size = pw11 at *
        have HC := HCn; clear HCn
        have HS := HSn; clear HSn
        have HQ := HQn; clear HQn
        have HP := HNn; clear HNn
        refine wpAnyH_ready (rs := [6]) (by kernel_rfl) (by simp) ?_
        refine (AllReadyH.cons (o := { dst := none, op := _, type := _, pos := _, after := _, guard := _ }) rfl (fun K hK => ?_) AllReadyH.nil)
        have q0 := HP.out.five.c0; have q1 := HP.out.five.c1; have q2 := HP.out.five.c2; have q3 := HP.out.five.c3; have q4 := HP.out.five.c4; have qf := HP.out.fr
        unfold z5 at q0 q1 q2 q3 q4
        simp only at q0 q1 q2 q3 q4
        go_simp
        have HFa := Lib.hid (st5_five HP.out.five ⟨op, d, s, o, i⟩)
        have HCn := Lib.hid (st5_ch HC.out HP.out.lo ⟨op, d, s, o, i⟩)
        have HSn := Lib.hid (And.intro (st5_other HS.out.1 (show pw11 ≠ B by have := HP.out.lo; have := HBC.out; omega) ⟨op, d, s, o, i⟩) (st5_other HS.out.2 (show pw11 ≠ C by have := HP.out.lo; have := HBC.out; omega) ⟨op, d, s, o, i⟩))
        have HQn := Lib.hid (HQ.out.st (U := pw11) (x := ⟨op, d, s, o, i⟩) (show pw11 ≠ qw10 by have := HAp.out; omega))
        refine hK.out _ _ HSn.out (fun hHeld => ?_)
        clear hK K
        try simp only [Act.put, List.setIfInBounds_toArray, List.set_cons_zero, List.set_cons_succ]
        clear HC HS HP HQ q0 q1 q2 q3 q4 qf
        have hst : st5 w11 pw11 ⟨op, d, s, o, i⟩ = st5 w11 pw11 ⟨op, d, s, o, i⟩ := rfl
        unfold st5 at hst
        change wpAnyH _ _ _ _ _ _ _ _ (st5 w11 pw11 ⟨op, d, s, o, i⟩)
        clear hst
        generalize st5 w11 pw11 ⟨op, d, s, o, i⟩ = w12 at *
        have HC := HCn; clear HCn
        have HS := HSn; clear HSn
        have HQ := HQn; clear HQn
        refine wpAnyH_ready (rs := [7]) (by kernel_rfl) (by simp) ?_
        refine (AllReadyH.cons (o := { dst := none, op := _, type := _, pos := _, after := _, guard := _ }) rfl (fun K hK => ?_) AllReadyH.nil)
        have q0 := HQ.out.five.c0; have q1 := HQ.out.five.c1; have q2 := HQ.out.five.c2; have q3 := HQ.out.five.c3; have q4 := HQ.out.five.c4; have qf := HQ.out.fr
        unfold z5 at q0 q1 q2 q3 q4
        simp only at q0 q1 q2 q3 q4
        go_simp
        have HFb := Lib.hid (st5_five HQ.out.five ⟨op', d', s', o', i'⟩)
        have HCz := Lib.hid (st5_ch HC.out HQ.out.lo ⟨op', d', s', o', i'⟩)
        have HSn := Lib.hid (And.intro (st5_other HS.out.1 (show qw10 ≠ B by have := HQ.out.lo; have := HBC.out; omega) ⟨op', d', s', o', i'⟩) (st5_other HS.out.2 (show qw10 ≠ C by have := HQ.out.lo; have := HBC.out; omega) ⟨op', d', s', o', i'⟩))
        have HFa2 := Lib.hid (st5_other HFa.out (show qw10 ≠ pw11 by have := HAp.out; omega) ⟨op', d', s', o', i'⟩)
        refine hK.out _ _ HSn.out (fun hHeld => ?_)
        clear hK K HFa
        have HFa := HFa2; clear HFa2
        try simp only [Act.put, List.setIfInBounds_toArray, List.set_cons_zero, List.set_cons_succ]
        refine wpAnyH_done (by kernel_rfl) ?_ _
        refine NoPanic.normal ?_
        exact HQ0.out ⟨pw11, qw10, rfl, rfl, HFa.out, HFb.out, HCz.out⟩
    · go_simp
      have hc := (Ch.refl [] w4).alloc (.cells #[.int .i64 0, .int .i64 0, .int .i64 0, .int .i64 0, .int .i64 0] 34)
      have HCn := Lib.hid (HC.out.trans hc)
      have HSn := Lib.hid (And.intro (HS.out.1.ch hc (by simp)) (HS.out.2.ch hc (by simp)))
      have HNn := Lib.hid (Own5.new HC.out 34)
      refine hK.out _ _ HSn.out (fun hHeld => ?_)
      clear hK K
      try simp only [Act.put, List.setIfInBounds_toArray, List.set_cons_zero, List.set_cons_succ]
      clear hc HC HS
      generalize (w4.alloc (.cells #[.int .i64 0, .int .i64 0, .int .i64 0, .int .i64 0, .int .i64 0] 34)) = w14 at *
      generalize w4.heap.size = pw14 at *
      have HC := HCn; clear HCn
      have HS := HSn; clear HSn
      have HP := HNn; clear HNn
      refine wpAnyH_ready (rs := [3, 5]) (by kernel_rfl) (by simp) ?_
      refine (AllReadyH.cons (o := { dst := some 16, op := _, type := _, pos := _, after := _, guard := _ }) rfl (fun K hK => ?_) (AllReadyH.cons (o := { dst := some 6, op := _, type := _, pos := _, after := _, guard := _ }) rfl (fun K hK => ?_) AllReadyH.nil))
      · go_simp
        with_reducible refine (HTy.out _).mono ?_
        rintro e w15 ⟨rfl, hc⟩
        have HCn := Lib.hid (HC.out.trans hc)
        have HSn := Lib.hid (And.intro (HS.out.1.ch hc (by simp)) (HS.out.2.ch hc (by simp)))
        have HPn := Lib.hid (HP.out.ch hc)
        clear hc HC HS HP
        have HC := HCn; clear HCn
        have HS := HSn; clear HSn
        have HP := HPn; clear HPn
        (try go_wp2_with fail)
        refine hK.out _ _ HS.out (fun hHeld => ?_)
        clear hK K
        try simp only [Act.put, List.setIfInBounds_toArray, List.set_cons_zero, List.set_cons_succ]
        refine wpAnyH_ready (rs := [5]) (by kernel_rfl) (by simp) ?_
        refine (AllReadyH.cons (o := { dst := some 6, op := _, type := _, pos := _, after := _, guard := _ }) rfl (fun K hK => ?_) AllReadyH.nil)
        go_simp
        have hc := (Ch.refl [] w15).alloc (.cells #[.int .i64 0, .int .i64 0, .int .i64 0, .int .i64 0, .int .i64 0] 34)
        have HCn := Lib.hid (HC.out.trans hc)
        have HSn := Lib.hid (And.intro (HS.out.1.ch hc (by simp)) (HS.out.2.ch hc (by simp)))
        have HPn := Lib.hid (HP.out.ch hc)
        have HNn := Lib.hid (Own5.new HC.out 34)
        have HAp := Lib.hid (show pw14 ≠ w15.heap.size from Nat.ne_of_lt HP.out.five.lt)
        refine hK.out _ _ HSn.out (fun hHeld => ?_)
        clear hK K
        try simp only [Act.put, List.setIfInBounds_toArray, List.set_cons_zero, List.set_cons_succ]
        clear hc HC HS HP
        generalize (w15.alloc (.cells #[.int .i64 0, .int .i64 0, .int .i64 0, .int .i64 0, .int .i64 0] 34)) = w16 at *
        generalize w15.heap.size = qw16 at *
        have HC := HCn; clear HCn
        have HS := HSn; clear HSn
        have HP := HPn; clear HPn
        have HQ := HNn; clear HNn
        refine wpAnyH_ready (rs := [6]) (by kernel_rfl) (by simp) ?_
        refine (AllReadyH.cons (o := { dst := none, op := _, type := _, pos := _, after := _, guard := _ }) rfl (fun K hK => ?_) AllReadyH.nil)
        have q0 := HP.out.five.c0; have q1 := HP.out.five.c1; have q2 := HP.out.five.c2; have q3 := HP.out.five.c3; have q4 := HP.out.five.c4; have qf := HP.out.fr
        unfold z5 at q0 q1 q2 q3 q4
        simp only at q0 q1 q2 q3 q4
        go_simp
        have HFa := Lib.hid (st5_five HP.out.five ⟨op, d, s, o, i⟩)
        have HCn := Lib.hid (st5_ch HC.out HP.out.lo ⟨op, d, s, o, i⟩)
        have HSn := Lib.hid (And.intro (st5_other HS.out.1 (show pw14 ≠ B by have := HP.out.lo; have := HBC.out; omega) ⟨op, d, s, o, i⟩) (st5_other HS.out.2 (show pw14 ≠ C by have := HP.out.lo; have := HBC.out; omega) ⟨op, d, s, o, i⟩))
        have HQn := Lib.hid (HQ.out.st (U := pw14) (x := ⟨op, d, s, o, i⟩) (show pw14 ≠ qw16 by have := HAp.out; omega))
        refine hK.out _ _ HSn.out (fun hHeld => ?_)
        clear hK K
        try simp only [Act.put, List.setIfInBounds_toArray, List.set_cons_zero, List.set_cons_succ]
        clear HC HS HP HQ q0 q1 q2 q3 q4 qf
        have hst : st5 w16 pw14 ⟨op, d, s, o, i⟩ = st5 w16 pw14 ⟨op, d, s, o, i⟩ := rfl
        unfold st5 at hst
        change wpAnyH _ _ _ _ _ _ _ _ (st5 w16 pw14 ⟨op, d, s, o, i⟩)
        clear hst
        generalize st5 w16 pw14 ⟨op, d, s, o, i⟩ = w17 at *
        have HC := HCn; clear HCn
        have HS := HSn; clear HSn
        have HQ := HQn; clear HQn
        refine wpAnyH_ready (rs := [7]) (by kernel_rfl) (by simp) ?_
        refine (AllReadyH.cons (o := { dst := none, op := _, type := _, pos := _, after := _, guard := _ }) rfl (fun K hK => ?_) AllReadyH.nil)
        have q0 := HQ.out.five.c0; have q1 := HQ.out.five.c1; have q2 := HQ.out.five.c2; have q3 := HQ.out.five.c3; have q4 := HQ.out.five.c4; have qf := HQ.out.fr
        unfold z5 at q0 q1 q2 q3 q4
        simp only at q0 q1 q2 q3 q4
        go_simp
        have HFb := Lib.hid (st5_five HQ.out.five ⟨op', d', s', o', i'⟩)
        have HCz := Lib.hid (st5_ch HC.out HQ.out.lo ⟨op', d', s', o', i'⟩)
        have HSn := Lib.hid (And.intro (st5_other HS.out.1 (show qw16 ≠ B by have := HQ.out.lo; have := HBC.out; omega) ⟨op', d', s', o', i'⟩) (st5_other HS.out.2 (show qw16 ≠ C by have := HQ.out.lo; have := HBC.out; omega) ⟨op', d', s', o', i'⟩))
        have HFa2 := Lib.hid (st5_other HFa.out (show qw16 ≠ pw14 by have := HAp.out; omega) ⟨op', d', s', o', i'⟩)
        refine hK.out _ _ HSn.out (fun hHeld => ?_)
        clear hK K HFa
        have HFa := HFa2; clear HFa2
        try simp only [Act.put, List.setIfInBounds_toArray, List.set_cons_zero, List.set_cons_succ]
        refine wpAnyH_done (by kernel_rfl) ?_ _
        refine NoPanic.normal ?_
        exact HQ0.out ⟨pw14, qw16, rfl, rfl, HFa.out, HFb.out, HCz.out⟩
      · go_simp
        have hc := (Ch.refl [] w14).alloc (.cells #[.int .i64 0, .int .i64 0, .int .i64 0, .int .i64 0, .int .i64 0] 34)
        have HCn := Lib.hid (HC.out.trans hc)
        have HSn := Lib.hid (And.intro (HS.out.1.ch hc (by simp)) (HS.out.2.ch hc (by simp)))
        have HPn := Lib.hid (HP.out.ch hc)
        have HNn := Lib.hid (Own5.new HC.out 34)
        have HAp := Lib.hid (show pw14 ≠ w14.heap.size from Nat.ne_of_lt HP.out.five.lt)
        refine hK.out _ _ HSn.out (fun hHeld => ?_)
        clear hK K
        try simp only [Act.put, List.setIfInBounds_toArray, List.set_cons_zero, List.set_cons_succ]
        clear hc HC HS HP
        generalize (w14.alloc (.cells #[.int .i64 0, .int .i64 0, .int .i64 0, .int .i64 0, .int .i64 0] 34)) = w19 at *
        generalize w14.heap.size = qw19 at *
        have HC := HCn; clear HCn
        have HS := HSn; clear HSn
        have HP := HPn; clear HPn
        have HQ := HNn; clear HNn
        refine wpAnyH_ready (rs := [3]) (by kernel_rfl) (by simp) ?_
        refine (AllReadyH.cons (o := { dst := some 16, op := _, type := _, pos := _, after := _, guard := _ }) rfl (fun K hK => ?_) AllReadyH.nil)
        go_simp
        with_reducible refine (HTy.out _).mono ?_
        rintro e w20 ⟨rfl, hc⟩
        have HCn := Lib.hid (HC.out.trans hc)
        have HSn := Lib.hid (And.intro (HS.out.1.ch hc (by simp)) (HS.out.2.ch hc (by simp)))
        have HPn := Lib.hid (HP.out.ch hc)
        have HQn := Lib.hid (HQ.out.ch hc)
        clear hc HC HS HP HQ
        have HC := HCn; clear HCn
        have HS := HSn; clear HSn
        have HP := HPn; clear HPn
        have HQ := HQn; clear HQn
        (try go_wp2_with fail)
        refine hK.out _ _ HS.out (fun hHeld => ?_)
        clear hK K
        try simp only [Act.put, List.setIfInBounds_toArray, List.set_cons_zero, List.set_cons_succ]
        refine wpAnyH_ready (rs := [6]) (by kernel_rfl) (by simp) ?_
        refine (AllReadyH.cons (o := { dst := none, op := _, type := _, pos := _, after := _, guard := _ }) rfl (fun K hK => ?_) AllReadyH.nil)
        have q0 := HP.out.five.c0; have q1 := HP.out.five.c1; have q2 := HP.out.five.c2; have q3 := HP.out.five.c3; have q4 := HP.out.five.c4; have qf := HP.out.fr
        unfold z5 at q0 q1 q2 q3 q4
        simp only at q0 q1 q2 q3 q4
        go_simp
        have HFa := Lib.hid (st5_five HP.out.five ⟨op, d, s, o, i⟩)
        have HCn := Lib.hid (st5_ch HC.out HP.out.lo ⟨op, d, s, o, i⟩)
        have HSn := Lib.hid (And.intro (st5_other HS.out.1 (show pw14 ≠ B by have := HP.out.lo; have := HBC.out; omega) ⟨op, d, s, o, i⟩) (st5_other HS.out.2 (show pw14 ≠ C by have := HP.out.lo; have := HBC.out; omega) ⟨op, d, s, o, i⟩))
        have HQn := Lib.hid (HQ.out.st (U := pw14) (x := ⟨op, d, s, o, i⟩) (show pw14 ≠ qw19 by have := HAp.out; omega))
        refine hK.out _ _ HSn.out (fun hHeld => ?_)
        clear hK K
        try simp only [Act.put, List.setIfInBounds_toArray, List.set_cons_zero, List.set_cons_succ]
        clear HC HS HP HQ q0 q1 q2 q3 q4 qf
        have hst : st5 w20 pw14 ⟨op, d, s, o, i⟩ = st5 w20 pw14 ⟨op, d, s, o, i⟩ := rfl
        unfold st5 at hst
        change wpAnyH _ _ _ _ _ _ _ _ (st5 w20 pw14 ⟨op, d, s, o, i⟩)
        clear hst
        generalize st5 w20 pw14 ⟨op, d, s, o, i⟩ = w21 at *
        have HC := HCn; clear HCn
        have HS := HSn; clear HSn
        have HQ := HQn; clear HQn
        refine wpAnyH_ready (rs := [7]) (by kernel_rfl) (by simp) ?_
        refine (AllReadyH.cons (o := { dst := none, op := _, type := _, pos := _, after := _, guard := _ }) rfl (fun K hK => ?_) AllReadyH.nil)
        have q0 := HQ.out.five.c0; have q1 := HQ.out.five.c1; have q2 := HQ.out.five.c2; have q3 := HQ.out.five.c3; have q4 := HQ.out.five.c4; have qf := HQ.out.fr
        unfold z5 at q0 q1 q2 q3 q4
        simp only at q0 q1 q2 q3 q4
        go_simp
        have HFb := Lib.hid (st5_five HQ.out.five ⟨op', d', s', o', i'⟩)
        have HCz := Lib.hid (st5_ch HC.out HQ.out.lo ⟨op', d', s', o', i'⟩)
        have HSn := Lib.hid (And.intro (st5_other HS.out.1 (show qw19 ≠ B by have := HQ.out.lo; have := HBC.out; omega) ⟨op', d', s', o', i'⟩) (st5_other HS.out.2 (show qw19 ≠ C by have := HQ.out.lo; have := HBC.out; omega) ⟨op', d', s', o', i'⟩))
        have HFa2 := Lib.hid (st5_other HFa.out (show qw19 ≠ pw14 by have := HAp.out; omega) ⟨op', d', s', o', i'⟩)
        refine hK.out _ _ HSn.out (fun hHeld => ?_)
        clear hK K HFa
        have HFa := HFa2; clear HFa2
        try simp only [Act.put, List.setIfInBounds_toArray, List.set_cons_zero, List.set_cons_succ]
        refine wpAnyH_done (by kernel_rfl) ?_ _
        refine NoPanic.normal ?_
        exact HQ0.out ⟨pw14, qw19, rfl, rfl, HFa.out, HFb.out, HCz.out⟩
    · go_simp
      have hc := (Ch.refl [] w4).alloc (.cells #[.int .i64 0, .int .i64 0, .int .i64 0, .int .i64 0, .int .i64 0] 34)
      have HCn := Lib.hid (HC.out.trans hc)
      have HSn := Lib.hid (And.intro (HS.out.1.ch hc (by simp)) (HS.out.2.ch hc (by simp)))
      have HNn := Lib.hid (Own5.new HC.out 34)
      refine hK.out _ _ HSn.out (fun hHeld => ?_)
      clear hK K
      try simp only [Act.put, List.setIfInBounds_toArray, List.set_cons_zero, List.set_cons_succ]
      clear hc HC HS
      generalize (w4.alloc (.cells #[.int .i64 0, .int .i64 0, .int .i64 0, .int .i64 0, .int .i64 0] 34)) = w23 at *
      generalize w4.heap.size = qw23 at *
      have HC := HCn; clear HCn
      have HS := HSn; clear HSn
      have HQ := HNn; clear HNn
      refine wpAnyH_ready (rs := [3, 4]) (by kernel_rfl) (by simp) ?_
      refine (AllReadyH.cons (o := { dst := some 16, op := _, type := _, pos := _, after := _, guard := _ }) rfl (fun K hK => ?_) (AllReadyH.cons (o := { dst := some 5, op := _, type := _, pos := _, after := _, guard := _ }) rfl (fun K hK => ?_) AllReadyH.nil))
      · go_simp
        with_reducible refine (HTy.out _).mono ?_
        rintro e w24 ⟨rfl, hc⟩
        have HCn := Lib.hid (HC.out.trans hc)
        have HSn := Lib.hid (And.intro (HS.out.1.ch hc (by simp)) (HS.out.2.ch hc (by simp)))
        have HQn := Lib.hid (HQ.out.ch hc)
        clear hc HC HS HQ
        have HC := HCn; clear HCn
        have HS := HSn; clear HSn
        have HQ := HQn; clear HQn
        (try go_wp2_with fail)
        refine hK.out _ _ HS.out (fun hHeld => ?_)
        clear hK K
        try simp only [Act.put, List.setIfInBounds_toArray, List.set_cons_zero, List.set_cons_succ]
        refine wpAnyH_ready (rs := [4]) (by kernel_rfl) (by simp) ?_
        refine (AllReadyH.cons (o := { dst := some 5, op := _, type := _, pos := _, after := _, guard := _ }) rfl (fun K hK => ?_) AllReadyH.nil)
        go_simp
        have hc := (Ch.refl [] w24).alloc (.cells #[.int .i64 0, .int .i64 0, .int .i64 0, .int .i64 0, .int .i64 0] 34)
        have HCn := Lib.hid (HC.out.trans hc)
        have HSn := Lib.hid (And.intro (HS.out.1.ch hc (by simp)) (HS.out.2.ch hc (by simp)))
        have HQn := Lib.hid (HQ.out.ch hc)
        have HNn := Lib.hid (Own5.new HC.out 34)
        have HAp := Lib.hid (show qw23 ≠ w24.heap.size from Nat.ne_of_lt HQ.out.five.lt)
        refine hK.out _ _ HSn.out (fun hHeld => ?_)
        clear hK K
        try simp only [Act.put, List.setIfInBounds_toArray, List.set_cons_zero, List.set_cons_succ]
        clear hc HC HS HQ
        generalize (w24.alloc (.cells #[.int .i64 0, .int .i64 0, .int .i64 0, .int .i64 0, .int .i64 0] 34)) = w25 at *
        generalize w24.heap.size = pw25 at *
        have HC := HCn; clear HCn
        have HS := HSn; clear HSn
        have HQ := HQn; clear HQn
        have HP := HNn; clear HNn
        refine wpAnyH_ready (rs := [6]) (by kernel_rfl) (by simp) ?_
        refine (AllReadyH.cons (o := { dst := none, op := _, type := _, pos := _, after := _, guard := _ }) rfl (fun K hK => ?_) AllReadyH.nil)
        have q0 := HP.out.five.c0; have q1 := HP.out.five.c1; have q2 := HP.out.five.c2; have q3 := HP.out.five.c3; have q4 := HP.out.five.c4; have qf := HP.out.fr
        unfold z5 at q0 q1 q2 q3 q4
        simp only at q0 q1 q2 q3 q4
        go_simp
        have HFa := Lib.hid (st5_five HP.out.five ⟨op, d, s, o, i⟩)
        have HCn := Lib.hid (st5_ch HC.out HP.out.lo ⟨op, d, s, o, i⟩)
        have HSn := Lib.hid (And.intro (st5_other HS.out.1 (show pw25 ≠ B by have := HP.out.lo; have := HBC.out; omega) ⟨op, d, s, o, i⟩) (st5_other HS.out.2 (show pw25 ≠ C by have := HP.out.lo; have := HBC.out; omega) ⟨op, d, s, o, i⟩))
        have HQn := Lib.hid (HQ.out.st (U := pw25) (x := ⟨op, d, s, o, i⟩) (show pw25 ≠ qw23 by have := HAp.out; omega))
        refine hK.out _ _ HSn.out (fun hHeld => ?_)
        clear hK K
        try simp only [Act.put, List.setIfInBounds_toArray, List.set_cons_zero, List.set_cons_succ]
        clear HC HS HP HQ q0 q1 q2 q3 q4 qf
        have hst : st5 w25 pw25 ⟨op, d, s, o, i⟩ = st5 w25 pw25 ⟨op, d, s, o, i⟩ := rfl
        unfold st5 at hst
        change wpAnyH _ _ _ _ _ _ _ _ (st5 w25 pw25 ⟨op, d, s, o, i⟩)
        clear hst
        generalize st5 w25 pw25 ⟨op, d, s, o, i⟩ = w26 at *
        have HC := HCn; clear HCn
        have HS := HSn; clear HSn
        have HQ := HQn; clear HQn
        refine wpAnyH_ready (rs := [7]) (by kernel_rfl) (by simp) ?_
        refine (AllReadyH.cons (o := { dst := none, op := _, type := _, pos := _, after := _, guard := _ }) rfl (fun K hK => ?_) AllReadyH.nil)
        have q0 := HQ.out.five.c0; have q1 := HQ.out.five.c1; have q2 := HQ.out.five.c2; have q3 := HQ.out.five.c3; have q4 := HQ.out.five.c4; have qf := HQ.out.fr
        unfold z5 at q0 q1 q2 q3 q4
        simp only at q0 q1 q2 q3 q4
        go_simp
        have HFb := Lib.hid (st5_five HQ.out.five ⟨op', d', s', o', i'⟩)
        have HCz := Lib.hid (st5_ch HC.out HQ.out.lo ⟨op', d', s', o', i'⟩)
        have HSn := Lib.hid (And.intro (st5_other HS.out.1 (show qw23 ≠ B by have := HQ.out.lo; have := HBC.out; omega) ⟨op', d', s', o', i'⟩) (st5_other HS.out.2 (show qw23 ≠ C by have := HQ.out.lo; have := HBC.out; omega) ⟨op', d', s', o', i'⟩))
        have HFa2 := Lib.hid (st5_other HFa.out (show qw23 ≠ pw25 by have := HAp.out; omega) ⟨op', d', s', o', i'⟩)
        refine hK.out _ _ HSn.out (fun hHeld => ?_)
        clear hK K HFa
        have HFa := HFa2; clear HFa2
        try simp only [Act.put, List.setIfInBounds_toArray, List.set_cons_zero, List.set_cons_succ]
        refine wpAnyH_done (by kernel_rfl) ?_ _
        refine NoPanic.normal ?_
        exact HQ0.out ⟨pw25, qw23, rfl, rfl, HFa.out, HFb.out, HCz.out⟩
      · go_simp
        have hc := (Ch.refl [] w23).alloc (.cells #[.int .i64 0, .int .i64 0, .int .i64 0, .int .i64 0, .int .i64 0] 34)
        have HCn := Lib.hid (HC.out.trans hc)
        have HSn := Lib.hid (And.intro (HS.out.1.ch hc (by simp)) (HS.out.2.ch hc (by simp)))
        have HQn := Lib.hid (HQ.out.ch hc)
        have HNn := Lib.hid (Own5.new HC.out 34)
        have HAp := Lib.hid (show qw23 ≠ w23.heap.size from Nat.ne_of_lt HQ.out.five.lt)
        refine hK.out _ _ HSn.out (fun hHeld => ?_)
        clear hK K
        try simp only [Act.put, List.setIfInBounds_toArray, List.set_cons_zero, List.set_cons_succ]
        clear hc HC HS HQ
        generalize (w23.alloc (.cells #[.int .i64 0, .int .i64 0, .int .i64 0, .int .i64 0, .int .i64 0] 34)) = w28 at *
        generalize w23.heap.size = pw28 at *
        have HC := HCn; clear HCn
        have HS := HSn; clear HSn
        have HQ := HQn; clear HQn
        have HP := HNn; clear HNn
        refine wpAnyH_ready (rs := [3]) (by kernel_rfl) (by simp) ?_
        refine (AllReadyH.cons (o := { dst := some 16, op := _, type := _, pos := _, after := _, guard := _ }) rfl (fun K hK => ?_) AllReadyH.nil)
        go_simp
        with_reducible refine (HTy.out _).mono ?_
        rintro e w29 ⟨rfl, hc⟩
        have HCn := Lib.hid (HC.out.trans hc)
        have HSn := Lib.hid (And.intro (HS.out.1.ch hc (by simp)) (HS.out.2.ch hc (by simp)))
        have HPn := Lib.hid (HP.out.ch hc)
        have HQn := Lib.hid (HQ.out.ch hc)
        clear hc HC HS HP HQ
        have HC := HCn; clear HCn
        have HS := HSn; clear HSn
        have HP := HPn; clear HPn
        have HQ := HQn; clear HQn
        (try go_wp2_with fail)
        refine hK.out _ _ HS.out (fun hHeld => ?_)
        clear hK K
        try simp only [Act.put, List.setIfInBounds_toArray, List.set_cons_zero, List.set_cons_succ]
        refine wpAnyH_ready (rs := [6]) (by kernel_rfl) (by simp) ?_
        refine (AllReadyH.cons (o := { dst := none, op := _, type := _, pos := _, after := _, guard := _ }) rfl (fun K hK => ?_) AllReadyH.nil)
        have q0 := HP.out.five.c0; have q1 := HP.out.five.c1; have q2 := HP.out.five.c2; have q3 := HP.out.five.c3; have q4 := HP.out.five.c4; have qf := HP.out.fr
        unfold z5 at q0 q1 q2 q3 q4
        simp only at q0 q1 q2 q3 q4
        go_simp
        have HFa := Lib.hid (st5_five HP.out.five ⟨op, d, s, o, i⟩)
        have HCn := Lib.hid (st5_ch HC.out HP.out.lo ⟨op, d, s, o, i⟩)
        have HSn := Lib.hid (And.intro (st5_other HS.out.1 (show pw28 ≠ B by have := HP.out.lo; have := HBC.out; omega) ⟨op, d, s, o, i⟩) (st5_other HS.out.2 (show pw28 ≠ C by have := HP.out.lo; have := HBC.out; omega) ⟨op, d, s, o, i⟩))
        have HQn := Lib.hid (HQ.out.st (U := pw28) (x := ⟨op, d, s, o, i⟩) (show pw28 ≠ qw23 by have := HAp.out; omega))
        refine hK.out _ _ HSn.out (fun hHeld => ?_)
        clear hK K
        try simp only [Act.put, List.setIfInBounds_toArray, List.set_cons_zero, List.set_cons_succ]
        clear HC HS HP HQ q0 q1 q2 q3 q4 qf
        have hst : st5 w29 pw28 ⟨op, d, s, o, i⟩ = st5 w29 pw28 ⟨op, d, s, o, i⟩ := rfl
        unfold st5 at hst
        change wpAnyH _ _ _ _ _ _ _ _ (st5 w29 pw28 ⟨op, d, s, o, i⟩)
        clear hst
        generalize st5 w29 pw28 ⟨op, d, s, o, i⟩ = w30 at *
        have HC := HCn; clear HCn
        have HS := HSn; clear HSn
        have HQ := HQn; clear HQn
        refine wpAnyH_ready (rs := [7]) (by kernel_rfl) (by simp) ?_
        refine (AllReadyH.cons (o := { dst := none, op := _, type := _, pos := _, after := _, guard := _ }) rfl (fun K hK => ?_) AllReadyH.nil)
        have q0 := HQ.out.five.c0; have q1 := HQ.out.five.c1; have q2 := HQ.out.five.c2; have q3 := HQ.out.five.c3; have q4 := HQ.out.five.c4; have qf := HQ.out.fr
        unfold z5 at q0 q1 q2 q3 q4
        simp only at q0 q1 q2 q3 q4
        go_simp
        have HFb := Lib.hid (st5_five HQ.out.five ⟨op', d', s', o', i'⟩)
        have HCz := Lib.hid (st5_ch HC.out HQ.out.lo ⟨op', d', s', o', i'⟩)
        have HSn := Lib.hid (And.intro (st5_other HS.out.1 (show qw23 ≠ B by have := HQ.out.lo; have := HBC.out; omega) ⟨op', d', s', o', i'⟩) (st5_other HS.out.2 (show qw23 ≠ C by have := HQ.out.lo; have := HBC.out; omega) ⟨op', d', s', o', i'⟩))
        have HFa2 := Lib.hid (st5_other HFa.out (show qw23 ≠ pw28 by have := HAp.out; omega) ⟨op', d', s', o', i'⟩)
        refine hK.out _ _ HSn.out (fun hHeld => ?_)
        clear hK K HFa
        have HFa := HFa2; clear HFa2
        try simp only [Act.put, List.setIfInBounds_toArray, List.set_cons_zero, List.set_cons_succ]
        refine wpAnyH_done (by kernel_rfl) ?_ _
        refine NoPanic.normal ?_
        exact HQ0.out ⟨pw28, qw23, rfl, rfl, HFa.out, HFb.out, HCz.out⟩
  · go_simp
    have hc := (Ch.refl [] wd).alloc (.cells #[.int .i64 0, .int .i64 0, .int .i64 0, .int .i64 0, .int .i64 0] 34)
    have HCn := Lib.hid (HC.out.trans hc)
    have HSn := Lib.hid (And.intro (HS.out.1.ch hc (by simp)) (HS.out.2.ch hc (by simp)))
    have HNn := Lib.hid (Own5.new HC.out 34)
    refine hK.out _ _ HSn.out (fun hHeld => ?_)
    clear hK K
    try simp only [Act.put, List.setIfInBounds_toArray, List.set_cons_zero, List.set_cons_succ]
    clear hc HC HS
    generalize (wd.alloc (.cells #[.int .i64 0, .int .i64 0, .int .i64 0, .int .i64 0, .int .i64 0] 34)) = w32 at *
    generalize wd.heap.size = pw32 at *
    have HC := HCn; clear HCn
    have HS := HSn; clear HSn
    have HP := HNn; clear HNn
    refine wpAnyH_ready (rs := [1, 5]) (by kernel_rfl) (by simp) ?_
    refine (AllReadyH.cons (o := { dst := some 14, op := _, type := _, pos := _, after := _, guard := _ }) rfl (fun K hK => ?_) (AllReadyH.cons (o := { dst := some 6, op := _, type := _, pos := _, after := _, guard := _ }) rfl (fun K hK => ?_) AllReadyH.nil))
    · go_simp
      with_reducible refine (HTx.out _).mono ?_
      rintro e w33 ⟨rfl, hc⟩
      have HCn := Lib.hid (HC.out.trans hc)
      have HSn := Lib.hid (And.intro (HS.out.1.ch hc (by simp)) (HS.out.2.ch hc (by simp)))
      have HPn := Lib.hid (HP.out.ch hc)
      clear hc HC HS HP
      have HC := HCn; clear HCn
      have HS := HSn; clear HSn
      have HP := HPn; clear HPn
      (try go_wp2_with fail)
      refine hK.out _ _ HS.out (fun hHeld => ?_)
      clear hK K
      try simp only [Act.put, List.setIfInBounds_toArray, List.set_cons_zero, List.set_cons_succ]
      refine wpAnyH_ready (rs := [3, 5]) (by kernel_rfl) (by simp) ?_
      refine (AllReadyH.cons (o := { dst := some 16, op := _, type := _, pos := _, after := _, guard := _ }) rfl (fun K hK => ?_) (AllReadyH.cons (o := { dst := some 6, op := _, type := _, pos := _, after := _, guard := _ }) rfl (fun K hK => ?_) AllReadyH.nil))
      · go_simp
        with_reducible refine (HTy.out _).mono ?_
        rintro e w34 ⟨rfl, hc⟩
        have HCn := Lib.hid (HC.out.trans hc)
        have HSn := Lib.hid (And.intro (HS.out.1.ch hc (by simp)) (HS.out.2.ch hc (by simp)))
        have HPn := Lib.hid (HP.out.ch hc)
        clear hc HC HS HP
        have HC := HCn; clear HCn
        have HS := HSn; clear HSn
        have HP := HPn; clear HPn
        (try go_wp2_with fail)
        refine hK.out _ _ HS.out (fun hHeld => ?_)
        clear hK K
        try simp only [Act.put, List.setIfInBounds_toArray, List.set_cons_zero, List.set_cons_succ]
        refine wpAnyH_ready (rs := [5]) (by kernel_rfl) (by simp) ?_
        refine (AllReadyH.cons (o := { dst := some 6, op := _, type := _, pos := _, after := _, guard := _ }) rfl (fun K hK => ?_) AllReadyH.nil)
        go_simp
        have hc := (Ch.refl [] w34).alloc (.cells #[.int .i64 0, .int .i64 0, .int .i64 0, .int .i64 0, .int .i64 0] 34)
        have HCn := Lib.hid (HC.out.trans hc)
        have HSn := Lib.hid (And.intro (HS.out.1.ch hc (by simp)) (HS.out.2.ch hc (by simp)))
        have HPn := Lib.hid (HP.out.ch hc)
        have HNn := Lib.hid (Own5.new HC.out 34)
        have HAp := Lib.hid (show pw32 ≠ w34.heap.size from Nat.ne_of_lt HP.out.five.lt)
        refine hK.out _ _ HSn.out (fun hHeld => ?_)
        clear hK K
        try simp only [Act.put, List.setIfInBounds_toArray, List.set_cons_zero, List.set_cons_succ]
        clear hc HC HS HP
        generalize (w34.alloc (.cells #[.int .i64 0, .int .i64 0, .int .i64 0, .int .i64 0, .int .i64 0] 34)) = w35 at *
        generalize w34.heap.size = qw35 at *
        have HC := HCn; clear HCn
        have HS := HSn; clear HSn
        have HP := HPn; clear HPn
        have HQ := HNn; clear HNn
        refine wpAnyH_ready (rs := [6]) (by kernel_rfl) (by simp) ?_
        refine (AllReadyH.cons (o := { dst := none, op := _, type := _, pos := _, after := _, guard := _ }) rfl (fun K hK => ?_) AllReadyH.nil)
        have q0 := HP.out.five.c0; have q1 := HP.out.five.c1; have q2 := HP.out.five.c2; have q3 := HP.out.five.c3; have q4 := HP.out.five.c4; have qf := HP.out.fr
        unfold z5 at q0 q1 q2 q3 q4
        simp only at q0 q1 q2 q3 q4
        go_simp
        have HFa := Lib.hid (st5_five HP.out.five ⟨op, d, s, o, i⟩)
        have HCn := Lib.hid (st5_ch HC.out HP.out.lo ⟨op, d, s, o, i⟩)
        have HSn := Lib.hid (And.intro (st5_other HS.out.1 (show pw32 ≠ B by have := HP.out.lo; have := HBC.out; omega) ⟨op, d, s, o, i⟩) (st5_other HS.out.2 (show pw32 ≠ C by have := HP.out.lo; have := HBC.out; omega) ⟨op, d, s, o, i⟩))
        have HQn := Lib.hid (HQ.out.st (U := pw32) (x := ⟨op, d, s, o, i⟩) (show pw32 ≠ qw35 by have := HAp.out; omega))
        refine hK.out _ _ HSn.out (fun hHeld => ?_)
        clear hK K
        try simp only [Act.put, List.setIfInBounds_toArray, List.set_cons_zero, List.set_cons_succ]
        clear HC HS HP HQ q0 q1 q2 q3 q4 qf
        have hst : st5 w35 pw32 ⟨op, d, s, o, i⟩ = st5 w35 pw32 ⟨op, d, s, o, i⟩ := rfl
        unfold st5 at hst
        change wpAnyH _ _ _ _ _ _ _ _ (st5 w35 pw32 ⟨op, d, s, o, i⟩)
        clear hst
        generalize st5 w35 pw32 ⟨op, d, s, o, i⟩ = w36 at *
        have HC := HCn; clear HCn
        have HS := HSn; clear HSn
        have HQ := HQn; clear HQn
        refine wpAnyH_ready (rs := [7]) (by kernel_rfl) (by simp) ?_
        refine (AllReadyH.cons (o := { dst := none, op := _, type := _, pos := _, after := _, guard := _ }) rfl (fun K hK => ?_) AllReadyH.nil)
        have q0 := HQ.out.five.c0; have q1 := HQ.out.five.c1; have q2 := HQ.out.five.c2; have q3 := HQ.out.five.c3; have q4 := HQ.out.five.c4; have qf := HQ.out.fr
        unfold z5 at q0 q1 q2 q3 q4
        simp only at q0 q1 q2 q3 q4
        go_simp
        have HFb := Lib.hid (st5_five HQ.out.five ⟨op', d', s', o', i'⟩)
        have HCz := Lib.hid (st5_ch HC.out HQ.out.lo ⟨op', d', s', o', i'⟩)
        have HSn := Lib.hid (And.intro (st5_other HS.out.1 (show qw35 ≠ B by have := HQ.out.lo; have := HBC.out; omega) ⟨op', d', s', o', i'⟩) (st5_other HS.out.2 (show qw35 ≠ C by have := HQ.out.lo; have := HBC.out; omega) ⟨op', d', s', o', i'⟩))
        have HFa2 := Lib.hid (st5_other HFa.out (show qw35 ≠ pw32 by have := HAp.out; omega) ⟨op', d', s', o', i'⟩)
        refine hK.out _ _ HSn.out (fun hHeld => ?_)
        clear hK K HFa
        have HFa := HFa2; clear HFa2
        try simp only [Act.put, List.setIfInBounds_toArray, List.set_cons_zero, List.set_cons_succ]
        refine wpAnyH_done (by kernel_rfl) ?_ _
        refine NoPanic.normal ?_
        exact HQ0.out ⟨pw32, qw35, rfl, rfl, HFa.out, HFb.out, HCz.out⟩
      · go_simp
        have hc := (Ch.refl [] w33).alloc (.cells #[.int .i64 0, .int .i64 0, .int .i64 0, .int .i64 0, .int .i64 0] 34)
        have HCn := Lib.hid (HC.out.trans hc)
        have HSn := Lib.hid (And.intro (HS.out.1.ch hc (by simp)) (HS.out.2.ch hc (by simp)))
        have HPn := Lib.hid (HP.out.ch hc)
        have HNn := Lib.hid (Own5.new HC.out 34)
        have HAp := Lib.hid (show pw32 ≠ w33.heap.size from Nat.ne_of_lt HP.out.five.lt)
        refine hK.out _ _ HSn.out (fun hHeld => ?_)
        clear hK K
        try simp only [Act.put, List.setIfInBounds_toArray, List.set_cons_zero, List.set_cons_succ]
        clear hc HC HS HP
        generalize (w33.alloc (.cells #[.int .i64 0, .int .i64 0, .int .i64 0, .int .i64 0, .int .i64 0] 34)) = w38 at *
        generalize w33.heap.size = qw38 at *
        have HC := HCn; clear HCn
        have HS := HSn; clear HSn
        have HP := HPn; clear HPn
        have HQ := HNn; clear HNn
        refine wpAnyH_ready (rs := [3]) (by kernel_rfl) (by simp) ?_
        refine (AllReadyH.cons (o := { dst := some 16, op := _, type := _, pos := _, after := _, guard := _ }) rfl (fun K hK => ?_) AllReadyH.nil)
        go_simp
        with_reducible refine (HTy.out _).mono ?_
        rintro e w39 ⟨rfl, hc⟩
        have HCn := Lib.hid (HC.out.trans hc)
        have HSn := Lib.hid (And.intro (HS.out.1.ch hc (by simp)) (HS.out.2.ch hc (by simp)))
        have HPn := Lib.hid (HP.out.ch hc)
        have HQn := Lib.hid (HQ.out.ch hc)
        clear hc HC HS HP HQ
        have HC := HCn; clear HCn
        have HS := HSn; clear HSn
        have HP := HPn; clear HPn
        have HQ := HQn; clear HQn
        (try go_wp2_with fail)
        refine hK.out _ _ HS.out (fun hHeld => ?_)
        clear hK K
        try simp only [Act.put, List.setIfInBounds_toArray, List.set_cons_zero, List.set_cons_succ]
        refine wpAnyH_ready (rs := [6]) (by kernel_rfl) (by simp) ?_
        refine (AllReadyH.cons (o := { dst := none, op := _, type := _, pos := _, after := _, guard := _ }) rfl (fun K hK => ?_) AllReadyH.nil)
        have q0 := HP.out.five.c0; have q1 := HP.out.five.c1; have q2 := HP.out.five.c2; have q3 := HP.out.five.c3; have q4 := HP.out.five.c4; have qf := HP.out.fr
        unfold z5 at q0 q1 q2 q3 q4
        simp only at q0 q1 q2 q3 q4
        go_simp
        have HFa := Lib.hid (st5_five HP.out.five ⟨op, d, s, o, i⟩)
        have HCn := Lib.hid (st5_ch HC.out HP.out.lo ⟨op, d, s, o, i⟩)
        have HSn := Lib.hid (And.intro (st5_other HS.out.1 (show pw32 ≠ B by have := HP.out.lo; have := HBC.out; omega) ⟨op, d, s, o, i⟩) (st5_other HS.out.2 (show pw32 ≠ C by have := HP.out.lo; have := HBC.out; omega) ⟨op, d, s, o, i⟩))
        have HQn := Lib.hid (HQ.out.st (U := pw32) (x := ⟨op, d, s, o, i⟩) (show pw32 ≠ qw38 by have := HAp.out; omega))
        refine hK.out _ _ HSn.out (fun hHeld => ?_)
        clear hK K
        try simp only [Act.put, List.setIfInBounds_toArray, List.set_cons_zero, List.set_cons_succ]
        clear HC HS HP HQ q0 q1 q2 q3 q4 qf
        have hst : st5 w39 pw32 ⟨op, d, s, o, i⟩ = st5 w39 pw32 ⟨op, d, s, o, i⟩ := rfl
        unfold st5 at hst
        change wpAnyH _ _ _ _ _ _ _ _ (st5 w39 pw32 ⟨op, d, s, o, i⟩)
        clear hst
        generalize st5 w39 pw32 ⟨op, d, s, o, i⟩ = w40 at *
        have HC := HCn; clear HCn
        have HS := HSn; clear HSn
        have HQ := HQn; clear HQn
        refine wpAnyH_ready (rs := [7]) (by kernel_rfl) (by simp) ?_
        refine (AllReadyH.cons (o := { dst := none, op := _, type := _, pos := _, after := _, guard := _ }) rfl (fun K hK => ?_) AllReadyH.nil)
        have q0 := HQ.out.five.c0; have q1 := HQ.out.five.c1; have q2 := HQ.out.five.c2; have q3 := HQ.out.five.c3; have q4 := HQ.out.five.c4; have qf := HQ.out.fr
        unfold z5 at q0 q1 q2 q3 q4
        simp only at q0 q1 q2 q3 q4
        go_simp
        have HFb := Lib.hid (st5_five HQ.out.five ⟨op', d', s', o', i'⟩)
        have HCz := Lib.hid (st5_ch HC.out HQ.out.lo ⟨op', d', s', o', i'⟩)
        have HSn := Lib.hid (And.intro (st5_other HS.out.1 (show qw38 ≠ B by have := HQ.out.lo; have := HBC.out; omega) ⟨op', d', s', o', i'⟩) (st5_other HS.out.2 (show qw38 ≠ C by have := HQ.out.lo; have := HBC.out; omega) ⟨op', d', s', o', i'⟩))
        have HFa2 := Lib.hid (st5_other HFa.out (show qw38 ≠ pw32 by have := HAp.out; omega) ⟨op', d', s', o', i'⟩)
        refine hK.out _ _ HSn.out (fun hHeld => ?_)
        clear hK K HFa
        have HFa := HFa2; clear HFa2
        try simp only [Act.put, List.setIfInBounds_toArray, List.set_cons_zero, List.set_cons_succ]
        refine wpAnyH_done (by kernel_rfl) ?_ _
        refine NoPanic.normal ?_
        exact HQ0.out ⟨pw32, qw38, rfl, rfl, HFa.out, HFb.out, HCz.out⟩
    · go_simp
      have hc := (Ch.refl [] w32).alloc (.cells #[.int .i64 0, .int .i64 0, .int .i64 0, .int .i64 0, .int .i64 0] 34)
      have HCn := Lib.hid (HC.out.trans hc)
      have HSn := Lib.hid (And.intro (HS.out.1.ch hc (by simp)) (HS.out.2.ch hc (by simp)))
      have HPn := Lib.hid (HP.out.ch hc)
      have HNn := Lib.hid (Own5.new HC.out 34)
      have HAp := Lib.hid (show pw32 ≠ w32.heap.size from Nat.ne_of_lt HP.out.five.lt)
      refine hK.out _ _ HSn.out (fun hHeld => ?_)
      clear hK K
      try simp only [Act.put, List.setIfInBounds_toArray, List.set_cons_zero, List.set_cons_succ]
      clear hc HC HS HP
      generalize (w32.alloc (.cells #[.int .i64 0, .int .i64 0, .int .i64 0, .int .i64 0, .int .i64 0] 34)) = w42 at *
      generalize w32.heap.size = qw42 at *
      have HC := HCn; clear HCn
      have HS := HSn; clear HSn
      have HP := HPn; clear HPn
      have HQ := HNn; clear HNn
      refine wpAnyH_ready (rs := [1]) (by kernel_rfl) (by simp) ?_
      refine (AllReadyH.cons (o := { dst := some 14, op := _, type := _, pos := _, after := _, guard := _ }) rfl (fun K hK => ?_) AllReadyH.nil)
      go_simp
      with_reducible refine (HTx.out _).mono ?_
      rintro e w43 ⟨rfl, hc⟩
      have HCn := Lib.hid (HC.out.trans hc)
      have HSn := Lib.hid (And.intro (HS.out.1.ch hc (by simp)) (HS.out.2.ch hc (by simp)))
      have HPn := Lib.hid (HP.out.ch hc)
      have HQn := Lib.hid (HQ.out.ch hc)
      clear hc HC HS HP HQ
      have HC := HCn; clear HCn
      have HS := HSn; clear HSn
      have HP := HPn; clear HPn
      have HQ := HQn; clear HQn
      (try go_wp2_with fail)
      refine hK.out _ _ HS.out (fun hHeld => ?_)
      clear hK K
      try simp only [Act.put, List.setIfInBounds_toArray, List.set_cons_zero, List.set_cons_succ]
      refine wpAnyH_ready (rs := [3]) (by kernel_rfl) (by simp) ?_
      refine (AllReadyH.cons (o := { dst := some 16, op := _, type := _, pos := _, after := _, guard := _ }) rfl (fun K hK => ?_) AllReadyH.nil)
      go_simp
      with_reducible refine (HTy.out _).mono ?_
      rintro e w44 ⟨rfl, hc⟩
      have HCn := Lib.hid (HC.out.trans hc)
      have HSn := Lib.hid (And.intro (HS.out.1.ch hc (by simp)) (HS.out.2.ch hc (by simp)))
      have HPn := Lib.hid (HP.out.ch hc)
      have HQn := Lib.hid (HQ.out.ch hc)
      clear hc HC HS HP HQ
      have HC := HCn; clear HCn
      have HS := HSn; clear HSn
      have HP := HPn; clear HPn
      have HQ := HQn; clear HQn
      (try go_wp2_with fail)
      refine hK.out _ _ HS.out (fun hHeld => ?_)
      clear hK K
      try simp only [Act.put, List.setIfInBounds_toArray, List.set_cons_zero, List.set_cons_succ]
      refine wpAnyH_ready (rs := [6]) (by kernel_rfl) (by simp) ?_
      refine (AllReadyH.cons (o := { dst := none, op := _, type := _, pos := _, after := _, guard := _ }) rfl (fun K hK => ?_) AllReadyH.nil)
      have q0 := HP.out.five.c0; have q1 := HP.out.five.c1; have q2 := HP.out.five.c2; have q3 := HP.out.five.c3; have q4 := HP.out.five.c4; have qf := HP.out.fr
      unfold z5 at q0 q1 q2 q3 q4
      simp only at q0 q1 q2 q3 q4
      go_simp
      have HFa := Lib.hid (st5_five HP.out.five ⟨op, d, s, o, i⟩)
      have HCn := Lib.hid (st5_ch HC.out HP.out.lo ⟨op, d, s, o, i⟩)
      have HSn := Lib.hid (And.intro (st5_other HS.out.1 (show pw32 ≠ B by have := HP.out.lo; have := HBC.out; omega) ⟨op, d, s, o, i⟩) (st5_other HS.out.2 (show pw32 ≠ C by have := HP.out.lo; have := HBC.out; omega) ⟨op, d, s, o, i⟩))
      have HQn := Lib.hid (HQ.out.st (U := pw32) (x := ⟨op, d, s, o, i⟩) (show pw32 ≠ qw42 by have := HAp.out; omega))
      refine hK.out _ _ HSn.out (fun hHeld => ?_)
      clear hK K
      try simp only [Act.put, List.setIfInBounds_toArray, List.set_cons_zero, List.set_cons_succ]
      clear HC HS HP HQ q0 q1 q2 q3 q4 qf
      have hst : st5 w44 pw32 ⟨op, d, s, o, i⟩ = st5 w44 pw32 ⟨op, d, s, o, i⟩ := rfl
      unfold st5 at hst
      change wpAnyH _ _ _ _ _ _ _ _ (st5 w44 pw32 ⟨op, d, s, o, i⟩)
      clear hst
      generalize st5 w44 pw32 ⟨op, d, s, o, i⟩ = w45 at *
      have HC := HCn; clear HCn
      have HS := HSn; clear HSn
      have HQ := HQn; clear HQn
      refine wpAnyH_ready (rs := [7]) (by kernel_rfl) (by simp) ?_
      refine (AllReadyH.cons (o := { dst := none, op := _, type := _, pos := _, after := _, guard := _ }) rfl (fun K hK => ?_) AllReadyH.nil)
      have q0 := HQ.out.five.c0; have q1 := HQ.out.five.c1; have q2 := HQ.out.five.c2; have q3 := HQ.out.five.c3; have q4 := HQ.out.five.c4; have qf := HQ.out.fr
      unfold z5 at q0 q1 q2 q3 q4
      simp only at q0 q1 q2 q3 q4
      go_simp
      have HFb := Lib.hid (st5_five HQ.out.five ⟨op', d', s', o', i'⟩)
      have HCz := Lib.hid (st5_ch HC.out HQ.out.lo ⟨op', d', s', o', i'⟩)
      have HSn := Lib.hid (And.intro (st5_other HS.out.1 (show qw42 ≠ B by have := HQ.out.lo; have := HBC.out; omega) ⟨op', d', s', o', i'⟩) (st5_other HS.out.2 (show qw42 ≠ C by have := HQ.out.lo; have := HBC.out; omega) ⟨op', d', s', o', i'⟩))
      have HFa2 := Lib.hid (st5_other HFa.out (show qw42 ≠ pw32 by have := HAp.out; omega) ⟨op', d', s', o', i'⟩)
      refine hK.out _ _ HSn.out (fun hHeld => ?_)
      clear hK K HFa
      have HFa := HFa2; clear HFa2
      try simp only [Act.put, List.setIfInBounds_toArray, List.set_cons_zero, List.set_cons_succ]
      refine wpAnyH_done (by kernel_rfl) ?_ _
      refine NoPanic.normal ?_
      exact HQ0.out ⟨pw32, qw42, rfl, rfl, HFa.out, HFb.out, HCz.out⟩
  · go_simp
    have hc := (Ch.refl [] wd).alloc (.cells #[.int .i64 0, .int .i64 0, .int .i64 0, .int .i64 0, .int .i64 0] 34)
    have HCn := Lib.hid (HC.out.trans hc)
    have HSn := Lib.hid (And.intro (HS.out.1.ch hc (by simp)) (HS.out.2.ch hc (by simp)))
    have HNn := Lib.hid (Own5.new HC.out 34)
    refine hK.out _ _ HSn.out (fun hHeld => ?_)
    clear hK K
    try simp only [Act.put, List.setIfInBounds_toArray, List.set_cons_zero, List.set_cons_succ]
    clear hc HC HS
    generalize (wd.alloc (.cells #[.int .i64 0, .int .i64 0, .int .i64 0, .int .i64 0, .int .i64 0] 34)) = w47 at *
    generalize wd.heap.size = qw47 at *
    have HC := HCn; clear HCn
    have HS := HSn; clear HSn
    have HQ := HNn; clear HNn
    refine wpAnyH_ready (rs := [1, 4]) (by kernel_rfl) (by simp) ?_
    refine (AllReadyH.cons (o := { dst := some 14, op := _, type := _, pos := _, after := _, guard := _ }) rfl (fun K hK => ?_) (AllReadyH.cons (o := { dst := some 5, op := _, type := _, pos := _, after := _, guard := _ }) rfl (fun K hK => ?_) AllReadyH.nil))
    · go_simp
      with_reducible refine (HTx.out _).mono ?_
      rintro e w48 ⟨rfl, hc⟩
      have HCn := Lib.hid (HC.out.trans hc)
      have HSn := Lib.hid (And.intro (HS.out.1.ch hc (by simp)) (HS.out.2.ch hc (by simp)))
      have HQn := Lib.hid (HQ.out.ch hc)
      clear hc HC HS HQ
      have HC := HCn; clear HCn
      have HS := HSn; clear HSn
      have HQ := HQn; clear HQn
      (try go_wp2_with fail)
      refine hK.out _ _ HS.out (fun hHeld => ?_)
      clear hK K
      try simp only [Act.put, List.setIfInBounds_toArray, List.set_cons_zero, List.set_cons_succ]
      refine wpAnyH_ready (rs := [3, 4]) (by kernel_rfl) (by simp) ?_
      refine (AllReadyH.cons (o := { dst := some 16, op := _, type := _, pos := _, after := _, guard := _ }) rfl (fun K hK => ?_) (AllReadyH.cons (o := { dst := some 5, op := _, type := _, pos := _, after := _, guard := _ }) rfl (fun K hK => ?_) AllReadyH.nil))
      · go_simp
        with_reducible refine (HTy.out _).mono ?_
        rintro e w49 ⟨rfl, hc⟩
        have HCn := Lib.hid (HC.out.trans hc)
        have HSn := Lib.hid (And.intro (HS.out.1.ch hc (by simp)) (HS.out.2.ch hc (by simp)))
        have HQn := Lib.hid (HQ.out.ch hc)
        clear hc HC HS HQ
        have HC := HCn; clear HCn
        have HS := HSn; clear HSn
        have HQ := HQn; clear HQn
        (try go_wp2_with fail)
        refine hK.out _ _ HS.out (fun hHeld => ?_)
        clear hK K
        try simp only [Act.put, List.setIfInBounds_toArray, List.set_cons_zero, List.set_cons_succ]
        refine wpAnyH_ready (rs := [4]) (by kernel_rfl) (by simp) ?_
        refine (AllReadyH.cons (o := { dst := some 5, op := _, type := _, pos := _, after := _, guard := _ }) rfl (fun K hK => ?_) AllReadyH.nil)
        go_simp
        have hc := (Ch.refl [] w49).alloc (.cells #[.int .i64 0, .int .i64 0, .int .i64 0, .int .i64 0, .int .i64 0] 34)
        have HCn := Lib.hid (HC.out.trans hc)
        have HSn := Lib.hid (And.intro (HS.out.1.ch hc (by simp)) (HS.out.2.ch hc (by simp)))
        have HQn := Lib.hid (HQ.out.ch hc)
        have HNn := Lib.hid (Own5.new HC.out 34)
        have HAp := Lib.hid (show qw47 ≠ w49.heap.size from Nat.ne_of_lt HQ.out.five.lt)
        refine hK.out _ _ HSn.out (fun hHeld => ?_)
        clear hK K
        try simp only [Act.put, List.setIfInBounds_toArray, List.set_cons_zero, List.set_cons_succ]
        clear hc HC HS HQ
        generalize (w49.alloc (.cells #[.int .i64 0, .int .i64 0, .int .i64 0, .int .i64 0, .int .i64 0] 34)) = w50 at *
        generalize w49.heap.size = pw50 at *
        have HC := HCn; clear HCn
        have HS := HSn; clear HSn
        have HQ := HQn; clear HQn
        have HP := HNn; clear HNn
        refine wpAnyH_ready (rs := [6]) (by kernel_rfl) (by simp) ?_
        refine (AllReadyH.cons (o := { dst := none, op := _, type := _, pos := _, after := _, guard := _ }) rfl (fun K hK => ?_) AllReadyH.nil)
        have q0 := HP.out.five.c0; have q1 := HP.out.five.c1; have q2 := HP.out.five.c2; have q3 := HP.out.five.c3; have q4 := HP.out.five.c4; have qf := HP.out.fr
        unfold z5 at q0 q1 q2 q3 q4
        simp only at q0 q1 q2 q3 q4
        go_simp
        have HFa := Lib.hid (st5_five HP.out.five ⟨op, d, s, o, i⟩)
        have HCn := Lib.hid (st5_ch HC.out HP.out.lo ⟨op, d, s, o, i⟩)
        have HSn := Lib.hid (And.intro (st5_other HS.out.1 (show pw50 ≠ B by have := HP.out.lo; have := HBC.out; omega) ⟨op, d, s, o, i⟩) (st5_other HS.out.2 (show pw50 ≠ C by have := HP.out.lo; have := HBC.out; omega) ⟨op, d, s, o, i⟩))
        have HQn := Lib.hid (HQ.out.st (U := pw50) (x := ⟨op, d, s, o, i⟩) (show pw50 ≠ qw47 by have := HAp.out; omega))
        refine hK.out _ _ HSn.out (fun hHeld => ?_)
        clear hK K
        try simp only [Act.put, List.setIfInBounds_toArray, List.set_cons_zero, List.set_cons_succ]
        clear HC HS HP HQ q0 q1 q2 q3 q4 qf
        have hst : st5 w50 pw50 ⟨op, d, s, o, i⟩ = st5 w50 pw50 ⟨op, d, s, o, i⟩ := rfl
        unfold st5 at hst
        change wpAnyH _ _ _ _ _ _ _ _ (st5 w50 pw50 ⟨op, d, s, o, i⟩)
        clear hst
        generalize st5 w50 pw50 ⟨op, d, s, o, i⟩ = w51 at *
        have HC := HCn; clear HCn
        have HS := HSn; clear HSn
        have HQ := HQn; clear HQn
        refine wpAnyH_ready (rs := [7]) (by kernel_rfl) (by simp) ?_
        refine (AllReadyH.cons (o := { dst := none, op := _, type := _, pos := _, after := _, guard := _ }) rfl (fun K hK => ?_) AllReadyH.nil)
        have q0 := HQ.out.five.c0; have q1 := HQ.out.five.c1; have q2 := HQ.out.five.c2; have q3 := HQ.out.five.c3; have q4 := HQ.out.five.c4; have qf := HQ.out.fr
        unfold z5 at q0 q1 q2 q3 q4
        simp only at q0 q1 q2 q3 q4
        go_simp
        have HFb := Lib.hid (st5_five HQ.out.five ⟨op', d', s', o', i'⟩)
        have HCz := Lib.hid (st5_ch HC.out HQ.out.lo ⟨op', d', s', o', i'⟩)
        have HSn := Lib.hid (And.intro (st5_other HS.out.1 (show qw47 ≠ B by have := HQ.out.lo; have := HBC.out; omega) ⟨op', d', s', o', i'⟩) (st5_other HS.out.2 (show qw47 ≠ C by have := HQ.out.lo; have := HBC.out; omega) ⟨op', d', s', o', i'⟩))
        have HFa2 := Lib.hid (st5_other HFa.out (show qw47 ≠ pw50 by have := HAp.out; omega) ⟨op', d', s', o', i'⟩)
        refine hK.out _ _ HSn.out (fun hHeld => ?_)
        clear hK K HFa
        have HFa := HFa2; clear HFa2
        try simp only [Act.put, List.setIfInBounds_toArray, List.set_cons_zero, List.set_cons_succ]
        refine wpAnyH_done (by kernel_rfl) ?_ _
        refine NoPanic.normal ?_
        exact HQ0.out ⟨pw50, qw47, rfl, rfl, HFa.out, HFb.out, HCz.out⟩
      · go_simp
        have hc := (Ch.refl [] w48).alloc (.cells #[.int .i64 0, .int .i64 0, .int .i64 0, .int .i64 0, .int .i64 0] 34)
        have HCn := Lib.hid (HC.out.trans hc)
        have HSn := Lib.hid (And.intro (HS.out.1.ch hc (by simp)) (HS.out.2.ch hc (by simp)))
        have HQn := Lib.hid (HQ.out.ch hc)
        have HNn := Lib.hid (Own5.new HC.out 34)
        have HAp := Lib.hid (show qw47 ≠ w48.heap.size from Nat.ne_of_lt HQ.out.five.lt)
        refine hK.out _ _ HSn.out (fun hHeld => ?_)
        clear hK K
        try simp only [Act.put, List.setIfInBounds_toArray, List.set_cons_zero, List.set_cons_succ]
        clear hc HC HS HQ
        generalize (w48.alloc (.cells #[.int .i64 0, .int .i64 0, .int .i64 0, .int .i64 0, .int .i64 0] 34)) = w53 at *
        generalize w48.heap.size = pw53 at *
        have HC := HCn; clear HCn
        have HS := HSn; clear HSn
        have HQ := HQn; clear HQn
        have HP := HNn; clear HNn
        refine wpAnyH_ready (rs := [3]) (by kernel_rfl) (by simp) ?_
        refine (AllReadyH.cons (o := { dst := some 16, op := _, type := _, pos := _, after := _, guard := _ }) rfl (fun K hK => ?_) AllReadyH.nil)
        go_simp
        with_reducible refine (HTy.out _).mono ?_
        rintro e w54 ⟨rfl, hc⟩
        have HCn := Lib.hid (HC.out.trans hc)
        have HSn := Lib.hid (And.intro (HS.out.1.ch hc (by simp)) (HS.out.2.ch hc (by simp)))
        have HPn := Lib.hid (HP.out.ch hc)
        have HQn := Lib.hid (HQ.out.ch hc)
        clear hc HC HS HP HQ
        have HC := HCn; clear HCn
        have HS := HSn; clear HSn
        have HP := HPn; clear HPn
        have HQ := HQn; clear HQn
        (try go_wp2_with fail)
        refine hK.out _ _ HS.out (fun hHeld => ?_)
        clear hK K
        try simp only [Act.put, List.setIfInBounds_toArray, List.set_cons_zero, List.set_cons_succ]
        refine wpAnyH_ready (rs := [6]) (by kernel_rfl) (by simp) ?_
        refine (AllReadyH.cons (o := { dst := none, op := _, type := _, pos := _, after := _, guard := _ }) rfl (fun K hK => ?_) AllReadyH.nil)
        have q0 := HP.out.five.c0; have q1 := HP.out.five.c1; have q2 := HP.out.five.c2; have q3 := HP.out.five.c3; have q4 := HP.out.five.c4; have qf := HP.out.fr
        unfold z5 at q0 q1 q2 q3 q4
        simp only at q0 q1 q2 q3 q4
        go_simp
        have HFa := Lib.hid (st5_five HP.out.five ⟨op, d, s, o, i⟩)
        have HCn := Lib.hid (st5_ch HC.out HP.out.lo ⟨op, d, s, o, i⟩)
        have HSn := Lib.hid (And.intro (st5_other HS.out.1 (show pw53 ≠ B by have := HP.out.lo; have := HBC.out; omega) ⟨op, d, s, o, i⟩) (st5_other HS.out.2 (show pw53 ≠ C by have := HP.out.lo; have := HBC.out; omega) ⟨op, d, s, o, i⟩))
        have HQn := Lib.hid (HQ.out.st (U := pw53) (x := ⟨op, d, s, o, i⟩) (show pw53 ≠ qw47 by have := HAp.out; omega))
        refine hK.out _ _ HSn.out (fun hHeld => ?_)
        clear hK K
        try simp only [Act.put, List.setIfInBounds_toArray, List.set_cons_zero, List.set_cons_succ]
        clear HC HS HP HQ q0 q1 q2 q3 q4 qf
        have hst : st5 w54 pw53 ⟨op, d, s, o, i⟩ = st5 w54 pw53 ⟨op, d, s, o, i⟩ := rfl
        unfold st5 at hst
        change wpAnyH _ _ _ _ _ _ _ _ (st5 w54 pw53 ⟨op, d, s, o, i⟩)
        clear hst
        generalize st5 w54 pw53 ⟨op, d, s, o, i⟩ = w55 at *
        have HC := HCn; clear HCn
        have HS := HSn; clear HSn
        have HQ := HQn; clear HQn
        refine wpAnyH_ready (rs := [7]) (by kernel_rfl) (by simp) ?_
        refine (AllReadyH.cons (o := { dst := none, op := _, type := _, pos := _, after := _, guard := _ }) rfl (fun K hK => ?_) AllReadyH.nil)
        have q0 := HQ.out.five.c0; have q1 := HQ.out.five.c1; have q2 := HQ.out.five.c2; have q3 := HQ.out.five.c3; have q4 := HQ.out.five.c4; have qf := HQ.out.fr
        unfold z5 at q0 q1 q2 q3 q4
        simp only at q0 q1 q2 q3 q4
        go_simp
        have HFb := Lib.hid (st5_five HQ.out.five ⟨op', d', s', o', i'⟩)
        have HCz := Lib.hid (st5_ch HC.out HQ.out.lo ⟨op', d', s', o', i'⟩)
        have HSn := Lib.hid (And.intro (st5_other HS.out.1 (show qw47 ≠ B by have := HQ.out.lo; have := HBC.out; omega) ⟨op', d', s', o', i'⟩) (st5_other HS.out.2 (show qw47 ≠ C by have := HQ.out.lo; have := HBC.out; omega) ⟨op', d', s', o', i'⟩))
        have HFa2 := Lib.hid (st5_other HFa.out (show qw47 ≠ pw53 by have := HAp.out; omega) ⟨op', d', s', o', i'⟩)
        refine hK.out _ _ HSn.out (fun hHeld => ?_)
        clear hK K HFa
        have HFa := HFa2; clear HFa2
        try simp only [Act.put, List.setIfInBounds_toArray, List.set_cons_zero, List.set_cons_succ]
        refine wpAnyH_done (by kernel_rfl) ?_ _
        refine NoPanic.normal ?_
        exact HQ0.out ⟨pw53, qw47, rfl, rfl, HFa.out, HFb.out, HCz.out⟩
    · go_simp
      have hc := (Ch.refl [] w47).alloc (.cells #[.int .i64 0, .int .i64 0, .int .i64 0, .int .i64 0, .int .i64 0] 34)
      have HCn := Lib.hid (HC.out.trans hc)
      have HSn := Lib.hid (And.intro (HS.out.1.ch hc (by simp)) (HS.out.2.ch hc (by simp)))
      have HQn := Lib.hid (HQ.out.ch hc)
      have HNn := Lib.hid (Own5.new HC.out 34)
      have HAp := Lib.hid (show qw47 ≠ w47.heap.size from Nat.ne_of_lt HQ.out.five.lt)
      refine hK.out _ _ HSn.out (fun hHeld => ?_)
      clear hK K
      try simp only [Act.put, List.setIfInBounds_toArray, List.set_cons_zero, List.set_cons_succ]
      clear hc HC HS HQ
      generalize (w47.alloc (.cells #[.int .i64 0, .int .i64 0, .int .i64 0, .int .i64 0, .int .i64 0] 34)) = w57 at *
      generalize w47.heap.size = pw57 at *
      have HC := HCn; clear HCn
      have HS := HSn; clear HSn
      have HQ := HQn; clear HQn
      have HP := HNn; clear HNn
      refine wpAnyH_ready (rs := [1]) (by kernel_rfl) (by simp) ?_
      refine (AllReadyH.cons (o := { dst := some 14, op := _, type := _, pos := _, after := _, guard := _ }) rfl (fun K hK => ?_) AllReadyH.nil)
      go_simp
      with_reducible refine (HTx.out _).mono ?_
      rintro e w58 ⟨rfl, hc⟩
      have HCn := Lib.hid (HC.out.trans hc)
      have HSn := Lib.hid (And.intro (HS.out.1.ch hc (by simp)) (HS.out.2.ch hc (by simp)))
      have HPn := Lib.hid (HP.out.ch hc)
      have HQn := Lib.hid (HQ.out.ch hc)
      clear hc HC HS HP HQ
      have HC := HCn; clear HCn
      have HS := HSn; clear HSn
      have HP := HPn; clear HPn
      have HQ := HQn; clear HQn
      (try go_wp2_with fail)
      refine hK.out _ _ HS.out (fun hHeld => ?_)
      clear hK K
      try simp only [Act.put, List.setIfInBounds_toArray, List.set_cons_zero, List.set_cons_succ]
      refine wpAnyH_ready (rs := [3]) (by kernel_rfl) (by simp) ?_
      refine (AllReadyH.cons (o := { dst := some 16, op := _, type := _, pos := _, after := _, guard := _ }) rfl (fun K hK => ?_) AllReadyH.nil)
      go_simp
      with_reducible refine (HTy.out _).mono ?_
      rintro e w59 ⟨rfl, hc⟩
      have HCn := Lib.hid (HC.out.trans hc)
      have HSn := Lib.hid (And.intro (HS.out.1.ch hc (by simp)) (HS.out.2.ch hc (by simp)))
      have HPn := Lib.hid (HP.out.ch hc)
      have HQn := Lib.hid (HQ.out.ch hc)
      clear hc HC HS HP HQ
      have HC := HCn; clear HCn
      have HS := HSn; clear HSn
      have HP := HPn; clear HPn
      have HQ := HQn; clear HQn
      (try go_wp2_with fail)
      refine hK.out _ _ HS.out (fun hHeld => ?_)
      clear hK K
      try simp only [Act.put, List.setIfInBounds_toArray, List.set_cons_zero, List.set_cons_succ]
      refine wpAnyH_ready (rs := [6]) (by kernel_rfl) (by simp) ?_
      refine (AllReadyH.cons (o := { dst := none, op := _, type := _, pos := _, after := _, guard := _ }) rfl (fun K hK => ?_) AllReadyH.nil)
      have q0 := HP.out.five.c0; have q1 := HP.out.five.c1; have q2 := HP.out.five.c2; have q3 := HP.out.five.c3; have q4 := HP.out.five.c4; have qf := HP.out.fr
      unfold z5 at q0 q1 q2 q3 q4
      simp only at q0 q1 q2 q3 q4
      go_simp
      have HFa := Lib.hid (st5_five HP.out.five ⟨op, d, s, o, i⟩)
      have HCn := Lib.hid (st5_ch HC.out HP.out.lo ⟨op, d, s, o, i⟩)
      have HSn := Lib.hid (And.intro (st5_other HS.out.1 (show pw57 ≠ B by have := HP.out.lo; have := HBC.out; omega) ⟨op, d, s, o, i⟩) (st5_other HS.out.2 (show pw57 ≠ C by have := HP.out.lo; have := HBC.out; omega) ⟨op, d, s, o, i⟩))
      have HQn := Lib.hid (HQ.out.st (U := pw57) (x := ⟨op, d, s, o, i⟩) (show pw57 ≠ qw47 by have := HAp.out; omega))
      refine hK.out _ _ HSn.out (fun hHeld => ?_)
      clear hK K
      try simp only [Act.put, List.setIfInBounds_toArray, List.set_cons_zero, List.set_cons_succ]
      clear HC HS HP HQ q0 q1 q2 q3 q4 qf
      have hst : st5 w59 pw57 ⟨op, d, s, o, i⟩ = st5 w59 pw57 ⟨op, d, s, o, i⟩ := rfl
      unfold st5 at hst
      change wpAnyH _ _ _ _ _ _ _ _ (st5 w59 pw57 ⟨op, d, s, o, i⟩)
      clear hst
      generalize st5 w59 pw57 ⟨op, d, s, o, i⟩ = w60 at *
      have HC := HCn; clear HCn
      have HS := HSn; clear HSn
      have HQ := HQn; clear HQn
      refine wpAnyH_ready (rs := [7]) (by kernel_rfl) (by simp) ?_
      refine (AllReadyH.cons (o := { dst := none, op := _, type := _, pos := _, after := _, guard := _ }) rfl (fun K hK => ?_) AllReadyH.nil)
      have q0 := HQ.out.five.c0; have q1 := HQ.out.five.c1; have q2 := HQ.out.five.c2; have q3 := HQ.out.five.c3; have q4 := HQ.out.five.c4; have qf := HQ.out.fr
      unfold z5 at q0 q1 q2 q3 q4
      simp only at q0 q1 q2 q3 q4
      go_simp
      have HFb := Lib.hid (st5_five HQ.out.five ⟨op', d', s', o', i'⟩)
      have HCz := Lib.hid (st5_ch HC.out HQ.out.lo ⟨op', d', s', o', i'⟩)
      have HSn := Lib.hid (And.intro (st5_other HS.out.1 (show qw47 ≠ B by have := HQ.out.lo; have := HBC.out; omega) ⟨op', d', s', o', i'⟩) (st5_other HS.out.2 (show qw47 ≠ C by have := HQ.out.lo; have := HBC.out; omega) ⟨op', d', s', o', i'⟩))
      have HFa2 := Lib.hid (st5_other HFa.out (show qw47 ≠ pw57 by have := HAp.out; omega) ⟨op', d', s', o', i'⟩)
      refine hK.out _ _ HSn.out (fun hHeld => ?_)
      clear hK K HFa
      have HFa := HFa2; clear HFa2
      try simp only [Act.put, List.setIfInBounds_toArray, List.set_cons_zero, List.set_cons_succ]
      refine wpAnyH_done (by kernel_rfl) ?_ _
      refine NoPanic.normal ?_
      exact HQ0.out ⟨pw57, qw47, rfl, rfl, HFa.out, HFb.out, HCz.out⟩
end Go.Proofs.YtgldkalagmjkfaaDoor

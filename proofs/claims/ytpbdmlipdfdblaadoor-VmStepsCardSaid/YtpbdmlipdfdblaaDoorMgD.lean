/-
  Several texts in one: A region that draws its order and whose last two operations wait for all others (two stores), one behind the other. · Reached, the region that moves an instruction from the open ones to the reached ones: a piece. · Reached: a loop in whose body stands a range over a function: each round leaves a mark. · Reached, whole; Code (instructions as the program's); Calls. · Code (instructions as the program's); Calls.
-/
import Derived.Test.YtpbdmlipdfdblaaDoorBaseZ
import Derived.Deep.RegionWith
import Derived.Deep.RegionHeld3
import Derived.Deep.CutBlock
import Derived.Test.YtpbdmlipdfdblaaDoorMgC
import Derived.Sort.LoopGhostIn
namespace Go.Proofs.YtpbdmlipdfdblaaDoor
section
variable {P : Program} {S : World → Prop} {Q : Exit → Act → World → Prop}

theorem anyH_of_any {ops : Array Oper} {md : Region.Mode} : ∀ (fuel : Nat) (l : Array Bool) (a : Act) (w : World), wpAny P md ops Q fuel l a w → wpAnyH P md ops Q (fun _ => True) fuel l a w
  | 0, _, _, _, h => h
  | fuel + 1, _, _, _, h => ⟨h.1, fun i hi => wpOp_mono (fun a w k => ⟨trivial, anyH_of_any fuel _ a w k⟩) (h.2 i hi)⟩
/-- The last one waits for all others. -/
def lastOk (hd : List Oper) (z : Oper) : Bool := ((List.range hd.length).all fun i => (z.after.any fun e => Region.binds .any e && e.on == i) || (List.range hd.length).any fun j => decide (i < j) && match hd[j]? with | some o => o.after.any fun e => Region.binds .any e && e.on == i | none => false) && (z.after.all fun e => decide (e.on < hd.length)) && ((List.range hd.length).all fun i => match hd[i]? with | some o => o.guard.isNone && o.after.all fun e => decide (e.on < i) | none => true) && z.guard.isNone
theorem wpAny_lastL {hd : List Oper} {z : Oper} {a : Act} {w0 : World} (hb : lastOk hd z = true)
    (h : wpAnyH P .any hd.toArray (lastPost P z Q) S hd.length (Array.replicate hd.length false) a w0) : wpAny P .any (hd ++ [z]).toArray Q (hd ++ [z]).length (Array.replicate (hd ++ [z]).length false) a w0 := by

  unfold lastOk at hb
  simp only [Bool.and_eq_true] at hb
  obtain ⟨⟨⟨b1, b2⟩, b3⟩, b4⟩ := hb
  have c3 : ∀ (i : Nat) (o : Oper), hd.toArray[i]? = some o → o.guard = none ∧ ∀ e ∈ o.after, e.on < i := fun i o ho => by
    have hs : i < hd.length := by simpa using (Array.getElem?_eq_some_iff.1 ho).1
    have := List.all_eq_true.1 b3 i (List.mem_range.2 hs)
    rw [show hd[i]? = some o by simpa using ho] at this
    simp only [Bool.and_eq_true, Option.isNone_iff_eq_none] at this
    refine ⟨this.1, fun e he => ?_⟩
    have := Array.all_eq_true'.1 this.2 e he
    simpa using this
  have key := wpAny_last (P := P) (Q := Q) (S := S) (hd := hd.toArray) (z := z) (fun i hi => by
      have := List.all_eq_true.1 b1 i (List.mem_range.2 (by simpa using hi))
      rw [Bool.or_eq_true] at this
      rcases this with this | this
      · obtain ⟨e, he, h2⟩ := Array.any_eq_true'.1 this
        simp only [Bool.and_eq_true, beq_iff_eq] at h2
        exact .inl ⟨e, he, h2.1, h2.2⟩
      · obtain ⟨j, hj, h2⟩ := List.any_eq_true.1 this
        rw [Bool.and_eq_true] at h2
        obtain ⟨h3, h4⟩ := h2
        have hj := List.mem_range.1 hj
        have ho : hd[j]? = some hd[j] := by simp [hj]
        rw [ho] at h4
        obtain ⟨e, he, h5⟩ := Array.any_eq_true'.1 h4
        simp only [Bool.and_eq_true, beq_iff_eq] at h5
        exact .inr ⟨j, hd[j], by simpa using h3, by simp, e, he, h5.1, h5.2⟩) (fun e he => by have := Array.all_eq_true'.1 b2 e he; simpa using this) (fun i o ho => (c3 i o ho).2) (fun i o ho => (c3 i o ho).1) (by simpa using b4)
    hd.length (Array.replicate hd.length false) a w0 (by simp) (fun j o ho hj => by
      exfalso
      have : j < hd.length := by simpa using (Array.getElem?_eq_some_iff.1 ho).1
      simp [this] at hj) h
  have e1 : (hd ++ [z]).toArray = hd.toArray.push z := by simp
  have e2 : Array.replicate (hd ++ [z]).length false = (Array.replicate hd.length false).push false := by simp [Array.replicate_succ]
  rw [e1, e2, show (hd ++ [z]).length = hd.length + 1 by simp]
  exact key
/-- The others, S kept by them; then the last but one; then the last. -/
theorem wp_region_last2 {id : Nat} {l : List Oper} {a : Act} {w : World} (hd : List Oper) (y z : Oper) (hl : l = (hd ++ [y]) ++ [z]) (hm : P.follows .mixedOrders = true) (hby : lastOk hd y = true) (hbz : lastOk (hd ++ [y]) z = true)
    (S : World → Prop) (h : wpAnyH P .any hd.toArray (lastPost P y (lastPost P z Q)) S hd.length (Array.replicate hd.length false) a w.drew) : (Code.region id l.toArray true).wp P Q a w := by
  subst hl
  refine wp_region_any hm ?_
  have := wpAny_lastL (P := P) (Q := Q) (S := fun _ => True) (hd := hd ++ [y]) (z := z) (a := a) (w0 := w.drew) hbz (anyH_of_any _ _ _ _ (wpAny_lastL hby h))
  rw [show ((hd ++ [y]) ++ [z]).toArray.size = ((hd ++ [y]) ++ [z]).length by simp]
  exact this
end
end Go.Proofs.YtpbdmlipdfdblaaDoor

namespace Go.Proofs.YtpbdmlipdfdblaaDoor
open Go.RowKit Go.Shelf

attribute [local go_sem] Oper.semAt_some

/-- A box of a mask. -/
abbrev BM (W : World) (B : Nat) (m : Nat) : Prop := Boxed W B 91 (.int .u64 (m : Int))
theorem ints_one {w : World} {blk : Nat} {a : Int} (h : w.cell? ⟨blk, 0, none⟩ = some (.int .i64 a)) : Mk.IntsAt w (some ⟨blk, 0, none⟩) [a] := by
  refine .inr ⟨blk, 0, rfl, fun i hi => ?_⟩
  obtain rfl : i = 0 := by simpa using hi
  exact h
theorem withL (R : Nat) (hR : R < 18446744073709551616) (a : Int) (blk : Nat) (w : World) (h : w.cell? ⟨blk, 0, none⟩ = some (.int .i64 a)) : Calls Tryd.prog 48 #[.int .u64 (R : Int), .slice (some ⟨blk, 0, none⟩) 1 1] w fun e w' => e = .returned (.int .u64 ((Mk.withN R [a] : Nat) : Int)) ∧ w = w' :=
  Mk.with_any R hR (some ⟨blk, 0, none⟩) 1 [a] w (by simp) (ints_one h)
theorem withoutL (R : Nat) (hR : R < 18446744073709551616) (a : Int) (blk : Nat) (w : World) (h : w.cell? ⟨blk, 0, none⟩ = some (.int .i64 a)) : Calls Tryd.prog 49 #[.int .u64 (R : Int), .slice (some ⟨blk, 0, none⟩) 1 1] w fun e w' => e = .returned (.int .u64 ((Mk.withoutN R [a] : Nat) : Int)) ∧ w = w' :=
  Mk.without_any R hR (some ⟨blk, 0, none⟩) 1 [a] w (by simp) (ints_one h)

set_option maxRecDepth 100000 in
set_option maxHeartbeats 4000000 in
theorem move_piece {Br Bo R O : Nat} {a : Int} {W : World} (hne : Br ≠ Bo) (hR : R < 18446744073709551616) (hO : O < 18446744073709551616) (hr : BM W Br R) (ho : BM W Bo O) {Q : Exit → Act → World → Prop}
    {u0 u1 u2 u6 u7 u8 u9 u10 u11 u12 u13 u14 u15 u16 u17 u18 u19 u20 u21 u22 u23 u24 u25 u26 u27 u28 u29 u30 u31 u32 u33 u34 u35 u36 u37 u38 u39 u40 u41 u42 u43 u44 : Value} {ds : List Deferred}
    (hQ : ∀ ⦃u24 u25 u26 u27 u28 u29 u30 u31 : Value⦄ ⦃W' : World⦄, BM W' Br (Mk.withN R [a]) → BM W' Bo (Mk.withoutN O [a]) → Ch [Br, Bo] W W' → Q .normal { tmps := #[u0, u1, u2, .pointer (some ⟨Br, 0, none⟩), .pointer (some ⟨Bo, 0, none⟩), .int .i64 a, u6, u7, u8, u9, u10, u11, u12, u13, u14, u15, u16, u17, u18, u19, u20, u21, u22, u23, u24, u25, u26, u27, u28, u29, u30, u31, u32, u33, u34, u35, u36, u37, u38, u39, u40, u41, u42, u43, u44], defers := ds } W') :
    Code.wp Tryd.prog (codeOf [1, 1, 1, 0, 1, 0, 0, 1, 0, 0, 0] (Tryd.f31.body.getD .skip)) Q { tmps := #[u0, u1, u2, .pointer (some ⟨Br, 0, none⟩), .pointer (some ⟨Bo, 0, none⟩), .int .i64 a, u6, u7, u8, u9, u10, u11, u12, u13, u14, u15, u16, u17, u18, u19, u20, u21, u22, u23, u24, u25, u26, u27, u28, u29, u30, u31, u32, u33, u34, u35, u36, u37, u38, u39, u40, u41, u42, u43, u44], defers := ds } W := by
  have c1 := hr.cell
  have c2 := ho.cell
  have HQ := Lib.hid hQ
  have HW := Lib.hid (withL R hR a)
  have HO := Lib.hid (withoutL O hO a)
  have G1 := Lib.hid (show ((W.alloc (.cells #[.int .i64 a] 3)).drew).cell? ⟨W.heap.size, 0, none⟩ = some (.int .i64 a) from (cell_new W _ _).1)
  have G2 := Lib.hid (show (((W.alloc (.cells #[.int .i64 a] 3)).alloc (.cells #[.int .i64 a] 3)).drew).cell? ⟨W.heap.size, 0, none⟩ = some (.int .i64 a) from (World.cell?_alloc_past _ _ _ (by simp)).trans (cell_new W _ _).1)
  have G3 := Lib.hid (show (((W.alloc (.cells #[.int .i64 a] 3)).alloc (.cells #[.int .i64 a] 3)).drew).cell? ⟨W.heap.size + 1, 0, none⟩ = some (.int .i64 a) from by have := (cell_new (W.alloc (.cells #[.int .i64 a] 3)) (.int .i64 a) 3).1; rw [World.size_alloc] at this; exact this)
  have er0 : W.drew.cell? ⟨Br, 0, none⟩ = some (.int .u64 (R : Int)) := hr.cell
  have fr0 : W.drew.frozen? ⟨Br, 0, none⟩ = false := hr.frozen
  have eo0 : W.drew.cell? ⟨Bo, 0, none⟩ = some (.int .u64 (O : Int)) := ho.cell
  have fo0 : W.drew.frozen? ⟨Bo, 0, none⟩ = false := ho.frozen
  have er1 : ((W.alloc (.cells #[.int .i64 a] 3)).drew).cell? ⟨Br, 0, none⟩ = some (.int .u64 (R : Int)) := (hr.alloc _).cell
  have fr1 : ((W.alloc (.cells #[.int .i64 a] 3)).drew).frozen? ⟨Br, 0, none⟩ = false := (hr.alloc _).frozen
  have eo1 : ((W.alloc (.cells #[.int .i64 a] 3)).drew).cell? ⟨Bo, 0, none⟩ = some (.int .u64 (O : Int)) := (ho.alloc _).cell
  have fo1 : ((W.alloc (.cells #[.int .i64 a] 3)).drew).frozen? ⟨Bo, 0, none⟩ = false := (ho.alloc _).frozen
  have er2 : (((W.alloc (.cells #[.int .i64 a] 3)).alloc (.cells #[.int .i64 a] 3)).drew).cell? ⟨Br, 0, none⟩ = some (.int .u64 (R : Int)) := ((hr.alloc _).alloc _).cell
  have fr2 : (((W.alloc (.cells #[.int .i64 a] 3)).alloc (.cells #[.int .i64 a] 3)).drew).frozen? ⟨Br, 0, none⟩ = false := ((hr.alloc _).alloc _).frozen
  have eo2 : (((W.alloc (.cells #[.int .i64 a] 3)).alloc (.cells #[.int .i64 a] 3)).drew).cell? ⟨Bo, 0, none⟩ = some (.int .u64 (O : Int)) := ((ho.alloc _).alloc _).cell
  have fo2 : (((W.alloc (.cells #[.int .i64 a] 3)).alloc (.cells #[.int .i64 a] 3)).drew).frozen? ⟨Bo, 0, none⟩ = false := ((ho.alloc _).alloc _).frozen
  have eo3 : ((((W.alloc (.cells #[.int .i64 a] 3)).alloc (.cells #[.int .i64 a] 3)).drew).setCell ⟨Br, 0, none⟩ (.int .u64 ((Mk.withN R [a] : Nat) : Int))).cell? ⟨Bo, 0, none⟩ = some (.int .u64 (O : Int)) := (((ho.alloc _).alloc _).other (fun e => hne e.symm) _).cell
  have fo3 : ((((W.alloc (.cells #[.int .i64 a] 3)).alloc (.cells #[.int .i64 a] 3)).drew).setCell ⟨Br, 0, none⟩ (.int .u64 ((Mk.withN R [a] : Nat) : Int))).frozen? ⟨Bo, 0, none⟩ = false := (((ho.alloc _).alloc _).other (fun e => hne e.symm) _).frozen
  have eo4 : ((((W.alloc (.cells #[.int .i64 a] 3)).alloc (.cells #[.int .i64 a] 3)).setCell ⟨Br, 0, none⟩ (.int .u64 ((Mk.withN R [a] : Nat) : Int))).drew).cell? ⟨Bo, 0, none⟩ = some (.int .u64 (O : Int)) := (((ho.alloc _).alloc _).other (fun e => hne e.symm) _).cell
  have fo4 : ((((W.alloc (.cells #[.int .i64 a] 3)).alloc (.cells #[.int .i64 a] 3)).setCell ⟨Br, 0, none⟩ (.int .u64 ((Mk.withN R [a] : Nat) : Int))).drew).frozen? ⟨Bo, 0, none⟩ = false := (((ho.alloc _).alloc _).other (fun e => hne e.symm) _).frozen
  have HF := Lib.hid (show BM ((((W.alloc (.cells #[.int .i64 a] 3)).alloc (.cells #[.int .i64 a] 3)).drew.setCell ⟨Br, 0, none⟩ (.int .u64 ((Mk.withN R [a] : Nat) : Int))).setCell ⟨Bo, 0, none⟩ (.int .u64 ((Mk.withoutN O [a] : Nat) : Int))) Br (Mk.withN R [a]) ∧ BM ((((W.alloc (.cells #[.int .i64 a] 3)).alloc (.cells #[.int .i64 a] 3)).drew.setCell ⟨Br, 0, none⟩ (.int .u64 ((Mk.withN R [a] : Nat) : Int))).setCell ⟨Bo, 0, none⟩ (.int .u64 ((Mk.withoutN O [a] : Nat) : Int))) Bo (Mk.withoutN O [a]) ∧ Ch [Br, Bo] W ((((W.alloc (.cells #[.int .i64 a] 3)).alloc (.cells #[.int .i64 a] 3)).drew.setCell ⟨Br, 0, none⟩ (.int .u64 ((Mk.withN R [a] : Nat) : Int))).setCell ⟨Bo, 0, none⟩ (.int .u64 ((Mk.withoutN O [a] : Nat) : Int))) from by
    have h1 : BM ((W.alloc (.cells #[.int .i64 a] 3)).alloc (.cells #[.int .i64 a] 3)).drew Br R := (hr.alloc _).alloc _
    have h2 : BM ((W.alloc (.cells #[.int .i64 a] 3)).alloc (.cells #[.int .i64 a] 3)).drew Bo O := (ho.alloc _).alloc _
    refine ⟨(h1.set _).other hne _, ((h2.other (fun e => hne e.symm) _).set _), ?_⟩
    exact ((((((Ch.refl _ W).alloc _).alloc _).drew).setCell (p := ⟨Br, 0, none⟩) (by simp) _).setCell (p := ⟨Bo, 0, none⟩) (by simp) _))
  clear hQ hR hO hr ho
  simp only [codeOf, Tryd.f31, Option.getD_some]
  refine wp_region_noPanic ?_
  refine wp_region_last2 [_, _, _, _, _, _, _, _] _ _ rfl (by kernel_rfl) (by kernel_rfl) (by kernel_rfl) (fun w' => w'.cell? ⟨Br, 0, none⟩ = some (.int .u64 (R : Int)) ∧ w'.cell? ⟨Bo, 0, none⟩ = some (.int .u64 (O : Int))) ?_
  have hHeld : (fun w' : World => w'.cell? ⟨Br, 0, none⟩ = some (.int .u64 (R : Int)) ∧ w'.cell? ⟨Bo, 0, none⟩ = some (.int .u64 (O : Int))) W.drew := ⟨er0, eo0⟩
  refine wpAnyH_take (i := 0) (oi := { dst := some 24, op := _, type := _, pos := _, after := _, guard := _ }) (v := ?v1_0) rfl (by kernel_rfl) (by kernel_rfl) (by kernel_rfl) (fun _ _ _ h => h) (.inl ⟨by rfl, ?h1_0⟩) (by assumption) ?_
  case h1_0 => intro w hSw; obtain ⟨hs1, hs2⟩ := hSw; go_simp; (try with_reducible rfl)
  try simp only [Act.put, List.setIfInBounds_toArray, List.set_cons_zero, List.set_cons_succ]
  refine wpAnyH_take (i := 1) (oi := { dst := some 25, op := _, type := _, pos := _, after := _, guard := _ }) (v := ?v2_1) rfl (by kernel_rfl) (by kernel_rfl) (by kernel_rfl) (fun _ _ _ h => h) (.inl ⟨by rfl, ?h2_1⟩) (by assumption) ?_
  case h2_1 => intro w hSw; obtain ⟨hs1, hs2⟩ := hSw; go_simp; (try with_reducible rfl)
  try simp only [Act.put, List.setIfInBounds_toArray, List.set_cons_zero, List.set_cons_succ]
  refine wpAnyH_take (i := 4) (oi := { dst := some 28, op := _, type := _, pos := _, after := _, guard := _ }) (v := ?v3_4) rfl (by kernel_rfl) (by kernel_rfl) (by kernel_rfl) (fun _ _ _ h => h) (.inl ⟨by rfl, ?h3_4⟩) (by assumption) ?_
  case h3_4 => intro w hSw; obtain ⟨hs1, hs2⟩ := hSw; go_simp; (try with_reducible rfl)
  try simp only [Act.put, List.setIfInBounds_toArray, List.set_cons_zero, List.set_cons_succ]
  refine wpAnyH_take (i := 5) (oi := { dst := some 29, op := _, type := _, pos := _, after := _, guard := _ }) (v := ?v4_5) rfl (by kernel_rfl) (by kernel_rfl) (by kernel_rfl) (fun _ _ _ h => h) (.inl ⟨by rfl, ?h4_5⟩) (by assumption) ?_
  case h4_5 => intro w hSw; obtain ⟨hs1, hs2⟩ := hSw; go_simp; (try with_reducible rfl)
  try simp only [Act.put, List.setIfInBounds_toArray, List.set_cons_zero, List.set_cons_succ]
  refine wpAnyH_ready (rs := [2, 6]) (by kernel_rfl) (by simp) ?_
  refine AllReadyH.cons (o := { dst := some 26, op := _, type := _, pos := _, after := _, guard := _ }) rfl (fun K hK => ?_) (AllReadyH.cons (o := { dst := some 30, op := _, type := _, pos := _, after := _, guard := _ }) rfl (fun K hK => ?_) AllReadyH.nil)
  · go_simp
    skip
    (try go_wp2_with fail)
    refine hK.out _ _ ⟨er1, eo1⟩ (fun hHeld => ?_)
    clear hK K
    try simp only [Act.put, List.setIfInBounds_toArray, List.set_cons_zero, List.set_cons_succ]
    refine wpAnyH_ready (rs := [3, 6]) (by kernel_rfl) (by simp) ?_
    refine AllReadyH.cons (o := { dst := some 27, op := _, type := _, pos := _, after := _, guard := _ }) rfl (fun K hK => ?_) (AllReadyH.cons (o := { dst := some 30, op := _, type := _, pos := _, after := _, guard := _ }) rfl (fun K hK => ?_) AllReadyH.nil)
    · go_simp
      with_reducible refine (HW.out _ _ G1.out).mono ?_; rintro e w9 ⟨rfl, rfl⟩
      (try go_wp2_with fail)
      refine hK.out _ _ ⟨er1, eo1⟩ (fun hHeld => ?_)
      clear hK K
      try simp only [Act.put, List.setIfInBounds_toArray, List.set_cons_zero, List.set_cons_succ]
      refine wpAnyH_ready (rs := [6]) (by kernel_rfl) (by simp) ?_
      refine AllReadyH.cons (o := { dst := some 30, op := _, type := _, pos := _, after := _, guard := _ }) rfl (fun K hK => ?_) AllReadyH.nil
      go_simp
      skip
      (try go_wp2_with fail)
      refine hK.out _ _ ⟨er2, eo2⟩ (fun hHeld => ?_)
      clear hK K
      try simp only [Act.put, List.setIfInBounds_toArray, List.set_cons_zero, List.set_cons_succ]
      refine wpAnyH_ready (rs := [7]) (by kernel_rfl) (by simp) ?_
      refine AllReadyH.cons (o := { dst := some 31, op := _, type := _, pos := _, after := _, guard := _ }) rfl (fun K hK => ?_) AllReadyH.nil
      go_simp
      with_reducible refine (HO.out _ _ G3.out).mono ?_; rintro e w9 ⟨rfl, rfl⟩
      (try go_wp2_with fail)
      refine hK.out _ _ ⟨er2, eo2⟩ (fun hHeld => ?_)
      clear hK K
      try simp only [Act.put, List.setIfInBounds_toArray, List.set_cons_zero, List.set_cons_succ]
      refine wpAnyH_done (by kernel_rfl) ?_ _
      simp only [lastPost]
      unfold Oper.wp
      go_simp
      exact HQ.out (HF.out).1 (HF.out).2.1 (HF.out).2.2
    · go_simp
      skip
      (try go_wp2_with fail)
      refine hK.out _ _ ⟨er2, eo2⟩ (fun hHeld => ?_)
      clear hK K
      try simp only [Act.put, List.setIfInBounds_toArray, List.set_cons_zero, List.set_cons_succ]
      refine wpAnyH_ready (rs := [3]) (by kernel_rfl) (by simp) ?_
      refine AllReadyH.cons (o := { dst := some 27, op := _, type := _, pos := _, after := _, guard := _ }) rfl (fun K hK => ?_) AllReadyH.nil
      go_simp
      with_reducible refine (HW.out _ _ G2.out).mono ?_; rintro e w9 ⟨rfl, rfl⟩
      (try go_wp2_with fail)
      refine hK.out _ _ ⟨er2, eo2⟩ (fun hHeld => ?_)
      clear hK K
      try simp only [Act.put, List.setIfInBounds_toArray, List.set_cons_zero, List.set_cons_succ]
      refine wpAnyH_ready (rs := [7]) (by kernel_rfl) (by simp) ?_
      refine AllReadyH.cons (o := { dst := some 31, op := _, type := _, pos := _, after := _, guard := _ }) rfl (fun K hK => ?_) AllReadyH.nil
      go_simp
      with_reducible refine (HO.out _ _ G3.out).mono ?_; rintro e w9 ⟨rfl, rfl⟩
      (try go_wp2_with fail)
      refine hK.out _ _ ⟨er2, eo2⟩ (fun hHeld => ?_)
      clear hK K
      try simp only [Act.put, List.setIfInBounds_toArray, List.set_cons_zero, List.set_cons_succ]
      refine wpAnyH_done (by kernel_rfl) ?_ _
      simp only [lastPost]
      unfold Oper.wp
      go_simp
      exact HQ.out (HF.out).1 (HF.out).2.1 (HF.out).2.2
  · go_simp
    skip
    (try go_wp2_with fail)
    refine hK.out _ _ ⟨er1, eo1⟩ (fun hHeld => ?_)
    clear hK K
    try simp only [Act.put, List.setIfInBounds_toArray, List.set_cons_zero, List.set_cons_succ]
    refine wpAnyH_ready (rs := [2]) (by kernel_rfl) (by simp) ?_
    refine AllReadyH.cons (o := { dst := some 26, op := _, type := _, pos := _, after := _, guard := _ }) rfl (fun K hK => ?_) AllReadyH.nil
    go_simp
    skip
    (try go_wp2_with fail)
    refine hK.out _ _ ⟨er2, eo2⟩ (fun hHeld => ?_)
    clear hK K
    try simp only [Act.put, List.setIfInBounds_toArray, List.set_cons_zero, List.set_cons_succ]
    refine wpAnyH_ready (rs := [3]) (by kernel_rfl) (by simp) ?_
    refine AllReadyH.cons (o := { dst := some 27, op := _, type := _, pos := _, after := _, guard := _ }) rfl (fun K hK => ?_) AllReadyH.nil
    go_simp
    with_reducible refine (HW.out _ _ G3.out).mono ?_; rintro e w9 ⟨rfl, rfl⟩
    (try go_wp2_with fail)
    refine hK.out _ _ ⟨er2, eo2⟩ (fun hHeld => ?_)
    clear hK K
    try simp only [Act.put, List.setIfInBounds_toArray, List.set_cons_zero, List.set_cons_succ]
    refine wpAnyH_ready (rs := [7]) (by kernel_rfl) (by simp) ?_
    refine AllReadyH.cons (o := { dst := some 31, op := _, type := _, pos := _, after := _, guard := _ }) rfl (fun K hK => ?_) AllReadyH.nil
    go_simp
    with_reducible refine (HO.out _ _ G2.out).mono ?_; rintro e w9 ⟨rfl, rfl⟩
    (try go_wp2_with fail)
    refine hK.out _ _ ⟨er2, eo2⟩ (fun hHeld => ?_)
    clear hK K
    try simp only [Act.put, List.setIfInBounds_toArray, List.set_cons_zero, List.set_cons_succ]
    refine wpAnyH_done (by kernel_rfl) ?_ _
    simp only [lastPost]
    unfold Oper.wp
    go_simp
    exact HQ.out (HF.out).1 (HF.out).2.1 (HF.out).2.2
end Go.Proofs.YtpbdmlipdfdblaaDoor

namespace Go.Proofs.YtpbdmlipdfdblaaDoor
open Go.RowKit Go.Shelf

attribute [local go_sem] Oper.semAt_some

/-- The marks that rounds have left: each its own block, between n₀ and B, with nothing handed over. -/
def Marks (n₀ B : Nat) (w : World) : List Deferred → Prop
  | [] => True
  | d :: ds => (∃ D, d = { target := .collected D, args := #[] } ∧ n₀ ≤ D ∧ D < B ∧ w.heap[D]? = some (.deferred (some [])) ∧ ∀ d' ∈ ds, d'.target ≠ .collected D) ∧ Marks n₀ B w ds
theorem Marks.keep {n₀ B B' : Nat} {w w' : World} (hB : B ≤ B') (h : ∀ D, n₀ ≤ D → D < B → w.heap[D]? = some (.deferred (some [])) → w'.heap[D]? = some (.deferred (some []))) : ∀ {ds : List Deferred}, Marks n₀ B w ds → Marks n₀ B' w' ds
  | [], _ => trivial
  | _ :: _, ⟨⟨D, h1, h2, h3, h4, h5⟩, h6⟩ => ⟨⟨D, h1, h2, by omega, h D h2 h3 h4, h5⟩, Marks.keep hB h h6⟩
theorem Marks.lt {n₀ B : Nat} {w : World} : ∀ {ds : List Deferred}, Marks n₀ B w ds → ∀ d ∈ ds, ∃ D, d.target = .collected D ∧ D < B
  | [], _, _, hd => by cases hd
  | _ :: _, ⟨⟨D, h1, _, h3, _⟩, h6⟩, d, hd => by
    rcases List.mem_cons.1 hd with rfl | hd
    · exact ⟨D, by rw [h1], h3⟩
    · exact h6.lt d hd
theorem Marks.ch {n₀ B : Nat} {S : List Nat} {w w' : World} {ds : List Deferred} (h : Marks n₀ B w ds) (hc : Ch S w w') (hS : ∀ k ∈ S, ∃ o, w.heap[k]? = some o ∧ o.isCells = true) : Marks n₀ B w' ds :=
  h.keep (Nat.le_refl _) fun D _ _ hD => (hc.block D (Array.getElem?_eq_some_iff.1 hD).1 (fun hm => by
    obtain ⟨o, h1, h2⟩ := hS D hm
    rw [hD] at h1
    cases h1
    cases h2)).trans hD
theorem Marks.own {n₀ B : Nat} {ds : List Deferred} {β : Type} : OwnFrom B (fun (_ : β) W => Marks n₀ B W ds) := fun _ W W' row h hg hr =>
  h.keep (Nat.le_refl _) fun D _ hlt hD => (hg.block D (Array.getElem?_eq_some_iff.1 hD).1 (fun e => by have := (hr D e.symm).1; omega)).trans hD
/-- The marks are taken over one behind the other. -/
theorem leaves_marks {F : Fence} {n : Nat} {P : Program} {fn : Func} {tmps : Array Value} {R : Ending → World → Prop} {n₀ B : Nat} {w0 : World} {v : Value} (hres : ∀ W, (results fn tmps).run P W = .ok v W) (hR : ∀ W, Below n₀ w0 W → R (.returned v) W) :
    ∀ (ds : List Deferred) (w : World), Marks n₀ B w ds → Below n₀ w0 w → LeavesInM F n P fn tmps R ds .returning w
  | [], w, _, hb => ⟨v, hres w, hR w hb⟩
  | d :: ds, w, ⟨⟨D, h1, h2, h3, h4, h5⟩, h6⟩, hb => by
    have hlt := (Array.getElem?_eq_some_iff.1 h4).1
    refine ⟨by simp, .inl ⟨D, _, by rw [h1], run_takeDeferred h4, ?_⟩⟩
    refine leaves_marks (B := B) hres hR ds _ ?_ (hb.trans ((Below.refl n₀ w).grown (grownBy_putObj' w D _) (by omega) (fun k e => by cases e; omega)))
    have key : ∀ (es : List Deferred), (∀ d' ∈ es, d'.target ≠ .collected D) → Marks n₀ B w es → Marks n₀ B (w.putObj D (.deferred none)) es := by
      intro es
      induction es with
      | nil => exact fun _ _ => trivial
      | cons e es ih =>
        rintro hne ⟨⟨D', g1, g2, g3, g4, g5⟩, g6⟩
        refine ⟨⟨D', g1, g2, g3, ?_, g5⟩, ih (fun d' hd' => hne d' (List.mem_cons_of_mem _ hd')) g6⟩
        have : D' ≠ D := fun e2 => hne e (by simp) (by rw [g1, e2])
        exact (World.putObj_heap_other this).trans g4
    exact key ds h5 h6
/-- What holds ahead of each round. -/
structure RS (w : World) (L : List I5) (Br Bo R O : Nat) (ds : List Deferred) (W : World) : Prop where
  wl : WL L R O
  r : BM W Br R
  o : BM W Bo O
  b : Below w.heap.size w W
  m : Marks w.heap.size W.heap.size W ds
  r0 : w.heap.size ≤ Br
  o0 : w.heap.size ≤ Bo

set_option maxRecDepth 100000 in
set_option maxHeartbeats 8000000 in
theorem reached_loop (n : Nat) {L : List I5} {a : Option Addr} {len cap : Nat} (hL : L.length = len) (hlen : len ≤ 1000) (hfit : ∀ x ∈ L, Fit x) (w : World) (hI : InsAt w a L) (hT : Mk.Tab w) {Br Bo R0 O0 : Nat} (hne : Br ≠ Bo) {w1 : World} (hS : RS w L Br Bo R0 O0 [] w1) {u8 u9 u10 u11 u12 : Value} :
    (codeOf [1, 1, 1] (Tryd.f31.body.getD .skip)).wpIn Fence.wide (n + 8) Tryd.prog (bodyPostM Fence.wide (n + 8) Tryd.prog Tryd.f31 fun e W' => ∃ M, RM L M ∧ e = .returned (.int .u64 ((M : Nat) : Int)) ∧ Below w.heap.size w W')
      { tmps := #[.slice a len cap, undef, .int .u64 0, .pointer (some ⟨Br, 0, none⟩), .pointer (some ⟨Bo, 0, none⟩), undef, undef, undef, u8, u9, u10, u11, u12, undef, undef, undef, undef, undef, undef, undef, undef, undef, undef, undef, undef, undef, undef, undef, undef, undef, undef, undef, undef, undef, undef, undef, undef, undef, undef, undef, undef, undef, undef, undef, undef], defers := [] } w1 := by
  have hg : 1 < w.heap.size := by
    have h := hT 0 (by decide)
    apply Nat.lt_of_not_le
    intro hle
    simp [World.cell?, Array.getElem?_eq_none hle] at h
  have HT := Lib.hid hT
  have HI := Lib.hid hI
  have HS := Lib.hid hS
  have HNx := Lib.hid (fun (O : Nat) (hO : O < 18446744073709551616) (W : World) (hW : Below w.heap.size w W) => Mk.next_any O hO 0 W (hT.below hW hg))
  have c1 := hS.o.cell
  clear hT hI hS
  have hw : ∀ f, Fence.wide.fn f := fun _ => trivial
  have hd : Fence.wide.depth = none := rfl
  have h1 : 1 ≤ n + 8 := by omega
  simp only [codeOf, Tryd.f31, Option.getD_some]
  gi_wp2_with (first
    | (gi_at_call 47; with_reducible refine (callsIn_wide.2 (HNx.out _ HS.out.wl.olt _ HS.out.b)).mono ?_; rintro e w2 ⟨rfl, hb2⟩)
    | fail)
  have HS2 := Lib.hid (show RS w L Br Bo R0 O0 [] w2 from ⟨HS.out.wl, (hb2.block Br HS.out.r.lt).trans HS.out.r, (hb2.block Bo HS.out.o.lt).trans HS.out.o, HS.out.b.trans (hb2.mono HS.out.b.size), trivial, HS.out.r0, HS.out.o0⟩)
  clear hb2 HS c1
  refine wpIn_loop_ghost_k (fun m a' W => ∃ (u7 u13 u14 u15 u16 u17 u18 u19 u20 u21 u22 u23 u24 u25 u26 u27 u28 u29 u30 u31 u32 u33 u34 u35 u36 u37 u38 u39 u40 u41 u42 u43 : Value) (R O : Nat) (ds : List Deferred), noN R = m ∧ RS w L Br Bo R O ds W ∧ a' = { tmps := #[.slice a len cap, undef, .int .u64 0, .pointer (some ⟨Br, 0, none⟩), .pointer (some ⟨Bo, 0, none⟩), .int .i64 ((Mk.nextV O 0 : Nat) : Int), .bool (Mk.nextB O 0), u7, u8, u9, u10, u11, u12, u13, u14, u15, u16, u17, u18, u19, u20, u21, u22, u23, u24, u25, u26, u27, u28, u29, u30, u31, u32, u33, u34, u35, u36, u37, u38, u39, u40, u41, u42, u43, undef], defers := ds }) (noN R0) ⟨_, _, _, _, _, _, _, _, _, _, _, _, _, _, _, _, _, _, _, _, _, _, _, _, _, _, _, _, _, _, _, _, R0, O0, [], rfl, HS2.out, rfl⟩ ?_
  intro m a' W hI J K hJ hK
  obtain ⟨u7, u13, u14, u15, u16, u17, u18, u19, u20, u21, u22, u23, u24, u25, u26, u27, u28, u29, u30, u31, u32, u33, u34, u35, u36, u37, u38, u39, u40, u41, u42, u43, R, O, ds, hm, hS, rfl⟩ := hI
  have HJ := Lib.hid hJ
  have HK := Lib.hid hK
  have HS3 := Lib.hid hS
  have HM := Lib.hid hm
  clear hJ hK hS hm HS2
  cases hb : Mk.nextB O 0 with
  | false =>
    have HR := Lib.hid (HS3.out.wl.done (next_none HS3.out.wl.olt hb))
    have c1 := HS3.out.r.cell
    clear hb
    gi_wp2
    exact leaves_marks (v := .int .u64 (R : Int)) (fun W => by simp [results, go_sem]) (fun W' hW' => ⟨R, HR.out, rfl, hW'⟩) ds W HS3.out.m HS3.out.b
  | true =>
    obtain ⟨x, hx⟩ : ∃ x, x = Mk.nextV O 0 := ⟨_, rfl⟩
    have hx1 := (next_some hb).1
    rw [← hx] at hx1 ⊢
    obtain ⟨hwl, hmm, hxl⟩ := HS3.out.wl.next hx1
    clear hb hx
    refine wpIn_seq_k (fun K1 hK1 => ?_)
    have HK1 := Lib.hid hK1
    clear hK1
    gi_wp2
    refine HK1.out _ _ ?_
    clear HK1
    refine wpIn_seq_k (fun K1 hK1 => ?_)
    have HK1 := Lib.hid hK1
    clear hK1
    refine wpIn_block ?_
    refine wpIn_seq_k (fun K2 hK2 => ?_)
    have HK2 := Lib.hid hK2
    clear hK2
    rw [wpIn_wide]
    refine move_piece hne HS3.out.wl.rlt HS3.out.wl.olt HS3.out.r HS3.out.o ?_
    intro u24 u25 u26 u27 u28 u29 u30 u31 W3 hr3 ho3 hc3
    simp only [Exit.then]
    refine HK2.out _ _ ?_
    clear HK2
    have hB3 : Below w.heap.size w W3 := HS3.out.b.trans (hc3.below _ (by have := HS3.out.r0; have := HS3.out.o0; intro k hk; simp at hk; omega) HS3.out.b.size)
    have hM3 : Marks w.heap.size W3.heap.size W3 ds := (HS3.out.m.ch hc3 (by
      intro k hk
      simp only [List.mem_cons, List.not_mem_nil, or_false] at hk
      rcases hk with rfl | rfl
      · exact ⟨_, HS3.out.r, rfl⟩
      · exact ⟨_, HS3.out.o, rfl⟩)).keep hc3.size (fun _ _ _ h => h)
    obtain ⟨R', hR'⟩ : ∃ M, M = Mk.withN R [(x : Int)] := ⟨_, rfl⟩
    obtain ⟨O1, hO1⟩ : ∃ M, M = Mk.withoutN O [(x : Int)] := ⟨_, rfl⟩
    have hO1lt : O1 < 18446744073709551616 := by rw [hO1]; exact Mk.withoutN_lt _ _ HS3.out.wl.olt
    rw [← hR', ← hO1] at hwl
    rw [← hR'] at hmm hr3
    rw [← hO1] at ho3
    have hbl : bhl L (x : Int) = nxL L.length (ia L x) x := by
      unfold bhl
      rw [if_pos (by unfold inn; rw [decide_eq_true_eq]; omega), Int.toNat_natCast]
      exact prL_eq (by omega) (by omega) (by rw [← ia_at hxl]; exact hfit _ (List.getElem_mem _))
    rw [← hbl] at hwl
    have HWl := Lib.hid hwl
    have HMm := Lib.hid hmm
    have r0 := HS3.out.r0
    have o0 := HS3.out.o0
    clear hwl hmm hR' hO1 hbl hc3
    gi_wp2_with (gi_at_call 50; refine (behind_in _ _ _ _ _ _).mono ?_; rintro e w' ⟨rfl, rfl⟩)
    obtain ⟨W4, hW4⟩ : ∃ W4, (W3.alloc (.cells #[.slice a len cap] 24)).alloc (.cells #[.int .i64 (x : Int)] 3) = W4 := ⟨_, rfl⟩
    have b1 : Boxed W4 W3.heap.size 24 (.slice a len cap) := by rw [← hW4]; exact (Boxed.new W3 24 _).alloc _
    have b2 : Boxed W4 (W3.heap.size + 1) 3 (.int .i64 (x : Int)) := by
      rw [← hW4]; have := Boxed.new (W3.alloc (.cells #[.slice a len cap] 24)) 3 (.int .i64 (x : Int))
      rwa [World.size_alloc] at this
    have hr4 : BM W4 Br R' := by rw [← hW4]; exact (hr3.alloc _).alloc _
    have ho4 : BM W4 Bo O1 := by rw [← hW4]; exact (ho3.alloc _).alloc _
    have hB4 : Below w.heap.size w W4 := by rw [← hW4]; exact (hB3.alloc hB3.size _).alloc (by have := hB3.size; simp; omega) _
    have hsz : W4.heap.size = W3.heap.size + 1 + 1 := by rw [← hW4]; simp
    have hM4 : Marks w.heap.size W4.heap.size W4 ds := (hM3.ch (by rw [← hW4]; exact ((Ch.refl [] W3).alloc _).alloc _) (by simp)).keep (by omega) (fun _ _ _ h => h)
    have hI4 := HI.out.ch (Ch.of_below (S := []) hB4) (by simp)
    have hr3l := hr3.lt
    have ho3l := ho3.lt
    have hB3s := hB3.size
    have hbeh := behind_stops (n + 8 - 1) hL hlen hfit W3.heap.size (W3.heap.size + 1) w.heap.size W4 b1 b2 hI4
    rw [hW4]
    clear hW4 hB3 hM3 hr3 ho3 hI4
    refine wpIn_rangeFunc_ownG rfl h1 (gf := 72) (lb := #[.pointer (some ⟨W3.heap.size, 0, none⟩), .pointer (some ⟨W3.heap.size + 1, 0, none⟩)]) rfl trivial (enters_of Tryd.func72 (by kernel_rfl) rfl)
      hbeh kc_t (kc_b (by omega)) (Below.refl _ _) (fun _ => rfl)
      (fun pre W => (BM W Br R' ∧ BM W Bo (opn R' O1 pre)) ∧ Marks w.heap.size W4.heap.size W ds ∧ Below w.heap.size w W)
      (fun _ _ _ => False)
      (OwnFrom.and (OwnFrom.and (Own.from (boxed_own Br 91 (fun _ : List Nat => .int .u64 (R' : Int))) _) (Own.from (boxed_own Bo 91 (fun pre : List Nat => .int .u64 ((opn R' O1 pre : Nat) : Int))) _)) (OwnFrom.and Marks.own (ownFrom_below (Nat.le_refl _) (by omega))))
      (fun _ _ _ _ _ hs _ _ => hs)
      ⟨⟨hr4, ho4⟩, hM4, hB4⟩
      (fun y => { tmps := #[.slice a len cap, undef, .int .u64 0, .pointer (some ⟨Br, 0, none⟩), .pointer (some ⟨Bo, 0, none⟩), .int .i64 (x : Int), .bool true, .int .i64 ((y : Nat) : Int), u8, u9, u10, u11, u12, u13, u14, u15, u16, u17, .bool true, u19, u20, u21, u22, u23, u24, u25, u26, u27, u28, u29, u30, u31, .slice a len cap, .int .i64 (x : Int), .func (.func 72) #[] #[.pointer (some ⟨W3.heap.size, 0, none⟩), .pointer (some ⟨W3.heap.size + 1, 0, none⟩)], .int .i64 ((y : Nat) : Int), u36, u37, u38, u39, u40, u41, u42, u43, undef], defers := [] }) ?assign ?body ?done ?stop
    case assign =>
      intro l y W K hK
      gi_wp2
      exact hK
    case body =>
      rintro l pre y W ⟨⟨hr, ho⟩, hM, hB⟩ hlt
      have c1 := hr.cell
      have c2 := ho.cell
      have hHas := fun W => Mk.has_any R' (y : Int) HWl.out.rlt W
      cases hb : Mk.hasb R' (y : Int) with
      | true =>
        rw [hb] at hHas
        have HHas := Lib.hid hHas
        have HE := Lib.hid (show opn R' O1 (pre ++ [y]) = opn R' O1 pre by rw [opn_snoc, if_pos hb])
        clear hHas hb
        gi_wp2_with (first
          | (gi_at_call 37; refine (CallsIn.inRound l (callsIn_wide.2 (HHas.out _))).mono ?_; rintro e w9 ⟨rfl, rfl⟩)
          | fail)
        exact ⟨(KeepsOthers.refl _).from _, kc_r _, ⟨hr, by rw [HE.out]; exact ho⟩, hM, hB⟩
      | false =>
        rw [hb] at hHas
        have HHas := Lib.hid hHas
        have HE := Lib.hid (show opn R' O1 (pre ++ [y]) = Mk.withN (opn R' O1 pre) [(y : Int)] by rw [opn_snoc, if_neg (by rw [hb]; simp)])
        have HWi := Lib.hid (withL (opn R' O1 pre) (opn_lt hO1lt pre) (y : Int) W.heap.size (W.alloc (.cells #[.int .i64 (y : Int)] 3)) (cell_new _ _ _).1)
        have c3 := (ho.alloc (.cells #[.int .i64 (y : Int)] 3)).cell
        have c4 := (ho.alloc (.cells #[.int .i64 (y : Int)] 3)).frozen
        clear hHas hb
        gi_wp2_with (first
          | (gi_at_call 37; refine (CallsIn.inRound l (callsIn_wide.2 (HHas.out _))).mono ?_; rintro e w9 ⟨rfl, rfl⟩)
          | (gi_at_call 48; refine (CallsIn.inRound l (callsIn_wide.2 HWi.out)).mono ?_; rintro e w9 ⟨rfl, rfl⟩)
          | fail)
        have hr2 : BM ((W.alloc (.cells #[.int .i64 (y : Int)] 3)).setCell ⟨Bo, 0, none⟩ (.int .u64 ((Mk.withN (opn R' O1 pre) [(y : Int)] : Nat) : Int))) Br R' := (hr.alloc _).other hne _
        have ho2 : BM ((W.alloc (.cells #[.int .i64 (y : Int)] 3)).setCell ⟨Bo, 0, none⟩ (.int .u64 ((Mk.withN (opn R' O1 pre) [(y : Int)] : Nat) : Int))) Bo (opn R' O1 (pre ++ [y])) := by rw [HE.out]; exact (ho.alloc _).set _
        have hb2 : Below w.heap.size W ((W.alloc (.cells #[.int .i64 (y : Int)] 3)).setCell ⟨Bo, 0, none⟩ (.int .u64 ((Mk.withN (opn R' O1 pre) [(y : Int)] : Nat) : Int))) := ((Below.refl _ W).alloc hB.size _).setCell (p := ⟨Bo, 0, none⟩) o0 _
        have hM2 := hM.keep (w' := ((W.alloc (.cells #[.int .i64 (y : Int)] 3)).setCell ⟨Bo, 0, none⟩ (.int .u64 ((Mk.withN (opn R' O1 pre) [(y : Int)] : Nat) : Int)))) (Nat.le_refl _) (fun D _ _ hD => (((Ch.refl [Bo] W).alloc (.cells #[.int .i64 (y : Int)] 3)).setCell (p := ⟨Bo, 0, none⟩) (by simp) (.int .u64 ((Mk.withN (opn R' O1 pre) [(y : Int)] : Nat) : Int))).block D (Array.getElem?_eq_some_iff.1 hD).1 (fun hm => by
          obtain rfl : D = Bo := by simpa using hm
          rw [show W.heap[D]? = _ from ho] at hD
          cases hD) |>.trans hD)
        exact ⟨((KeepsOthers.alloc _ _).trans (KeepsOthers.setCell _ _ _)).from _, ⟨hb2, fun u hu => (hu.alloc _).other (by omega) _, fun u hu => (hu.alloc _).other (by omega) _⟩, ⟨hr2, ho2⟩, hM2, hB.trans hb2⟩
    case done =>
      rintro D ys W hD rfl ⟨⟨hr, ho⟩, hM, hB⟩ hK
      have c2 := ho.cell
      have hDl := (Array.getElem?_eq_some_iff.1 hK).1
      have hM2 : Marks w.heap.size W.heap.size W ({ target := .collected D, args := #[] } :: ds) :=
        ⟨⟨D, rfl, by omega, hDl, hK, fun d' hd' e => by obtain ⟨D', h1, h2⟩ := hM.lt d' hd'; rw [h1] at e; cases e; omega⟩, hM.keep (by omega) (fun _ _ _ h => h)⟩
      have HMk := Lib.hid hM2
      have HBB := Lib.hid hB
      have HRr := Lib.hid hr
      have HOo := Lib.hid ho
      clear hM hM2 hB hr ho hK hDl
      gi_wp2_with fail
      refine HK1.out _ _ ?_
      clear HK1
      gi_wp2_with (first
        | (gi_at_call 47; with_reducible refine (callsIn_wide.2 (HNx.out _ HWl.out.olt _ HBB.out)).mono ?_; rintro e w2 ⟨rfl, hb2⟩)
        | fail)
      refine HK.out _ _ ?_
      refine ⟨noN R', by rw [← HM.out]; exact HMm.out, HJ.out _ _ _ ?_⟩
      refine ⟨_, _, _, _, _, _, _, _, _, _, _, _, _, _, _, _, _, _, _, _, _, _, _, _, _, _, _, _, _, _, _, _, R', opn R' O1 (bhl L (x : Int)), { target := .collected D, args := #[] } :: ds, rfl, ⟨HWl.out, (hb2.block Br HRr.out.lt).trans HRr.out, (hb2.block Bo HOo.out.lt).trans HOo.out, HBB.out.trans (hb2.mono HBB.out.size), ?_, r0, o0⟩, rfl⟩
      exact (HMk.out.ch (Ch.of_below (S := []) hb2) (by simp)).keep hb2.size (fun _ _ _ h => h)
    case stop =>
      rintro D c pre W _ _ h _
      exact h.elim
end Go.Proofs.YtpbdmlipdfdblaaDoor

namespace Go.Proofs.YtpbdmlipdfdblaaDoor
open Go.RowKit Go.Shelf

attribute [local go_sem] Oper.semAt_some

theorem rs_new {L : List I5} (w : World) {O : Nat} (hO : O = if 0 < L.length then Mk.withN 0 [0] else 0) {W : World} (hr : BM W w.heap.size 0) (ho : BM W (w.heap.size + 1) O) (hb : Below w.heap.size w W) : RS w L w.heap.size (w.heap.size + 1) 0 O [] W :=
  ⟨by rw [hO]; exact WL.start L, hr, ho, hb, trivial, Nat.le_refl _, by omega⟩

set_option maxRecDepth 100000 in
set_option maxHeartbeats 4000000 in
theorem reached_in (n : Nat) {L : List I5} {a : Option Addr} {len cap : Nat} (hL : L.length = len) (hlen : len ≤ 1000) (hfit : ∀ x ∈ L, Fit x) (w : World) (hI : InsAt w a L) (hT : Mk.Tab w) :
    CallsIn Fence.wide (n + 8) Tryd.prog 31 #[.slice a len cap] w fun e W' => ∃ M, RM L M ∧ e = .returned (.int .u64 ((M : Nat) : Int)) ∧ Below w.heap.size w W' := by
  have HLo := Lib.hid (fun (O0 : Nat) (w1 : World) (h : RS w L w.heap.size (w.heap.size + 1) 0 O0 [] w1) (u8 u9 u10 u11 u12 : Value) => reached_loop n (cap := cap) hL hlen hfit w hI hT (by omega) h (u8 := u8) (u9 := u9) (u10 := u10) (u11 := u11) (u12 := u12))
  have hw : ∀ f, Fence.wide.fn f := fun _ => trivial
  have hd : Fence.wide.depth = none := rfl
  have hr0 : BM ((w.alloc (.cells #[.int .u64 0] 91)).alloc (.cells #[.int .u64 0] 91)) w.heap.size 0 := (Boxed.new w 91 (.int .u64 0)).alloc _
  have ho0 : BM ((w.alloc (.cells #[.int .u64 0] 91)).alloc (.cells #[.int .u64 0] 91)) (w.heap.size + 1) 0 := by
    have := Boxed.new (w.alloc (.cells #[.int .u64 0] 91)) 91 (.int .u64 0)
    rwa [World.size_alloc] at this
  have hb0 : Below w.heap.size w ((w.alloc (.cells #[.int .u64 0] 91)).alloc (.cells #[.int .u64 0] 91)) := ((Below.refl _ w).alloc (Nat.le_refl _) _).alloc (by simp) _
  have hs0 : ((w.alloc (.cells #[.int .u64 0] 91)).alloc (.cells #[.int .u64 0] 91)).heap.size = w.heap.size + 1 + 1 := by simp
  refine callsIn_of_wp_marks Tryd.func31 rfl trivial ?_ rfl
  simp only [Tryd.ntmps31, List.size_toArray, List.length_cons, List.length_nil, Nat.reduceAdd, Nat.reduceSub, Array.replicate_succ, Array.replicate_zero, List.push_toArray, List.append_toArray, List.nil_append, List.cons_append]
  refine wpIn_seq_k (fun K0 hK0 => ?_)
  have HK0 := Lib.hid hK0
  clear hK0
  gi_wp2
  refine HK0.out _ _ ?_
  clear HK0
  refine wpIn_seq_k (fun K0 hK0 => ?_)
  have HK0 := Lib.hid hK0
  clear hK0
  gi_wp2
  refine HK0.out _ _ ?_
  clear HK0
  refine wpIn_seq_k (fun K0 hK0 => ?_)
  have HK0 := Lib.hid hK0
  clear hK0
  obtain ⟨w1, hw1⟩ : ∃ w1, (w.alloc (.cells #[.int .u64 0] 91)).alloc (.cells #[.int .u64 0] 91) = w1 := ⟨_, rfl⟩
  rw [hw1] at hr0 ho0 hb0 hs0 ⊢
  clear hw1
  rcases Nat.eq_zero_or_pos len with h0 | h0
  · have HR := Lib.hid (rs_new (L := L) w (O := 0) (by rw [if_neg (by omega)]) hr0 ho0 hb0)
    subst h0
    clear hr0 ho0 hb0 hs0
    gi_wp2_with fail
    refine HK0.out _ _ ?_
    exact HLo.out _ _ HR.out _ _ _ _ _
  · have hpos : 0 < (len : Int) := by omega
    have HOf := Lib.hid (Mk.of_any (some ⟨w1.heap.size, 0, none⟩) 1 [0] (w1.alloc (.cells #[.int .i64 0] 3)) (by simp) (ints_one (cell_new w1 (.int .i64 0) 3).1))
    have HR := Lib.hid (rs_new (L := L) w (O := Mk.withN 0 [0]) (by rw [if_pos (by omega)]) ((hr0.alloc (.cells #[.int .i64 0] 3)).other (by omega) _) ((ho0.alloc (.cells #[.int .i64 0] 3)).set (.int .u64 ((Mk.withN 0 [0] : Nat) : Int))) ((hb0.alloc hb0.size _).setCell (p := ⟨w.heap.size + 1, 0, none⟩) (by simp) _))
    have c1 := (ho0.alloc (.cells #[.int .i64 0] 3)).cell
    have c2 := (ho0.alloc (.cells #[.int .i64 0] 3)).frozen
    clear hr0 ho0 hb0 hs0 h0
    gi_wp2_with (first
      | (gi_at_call 46; refine (callsIn_wide.2 HOf.out).mono ?_; rintro e w9 ⟨rfl, rfl⟩)
      | fail)
    refine HK0.out _ _ ?_
    exact HLo.out _ _ HR.out _ _ _ _ _

theorem reached_any {L : List I5} {a : Option Addr} {len cap : Nat} (hL : L.length = len) (hlen : len ≤ 1000) (hfit : ∀ x ∈ L, Fit x) (w : World) (hI : InsAt w a L) (hT : Mk.Tab w) :
    Calls Tryd.prog 31 #[.slice a len cap] w fun e W' => ∃ M, RM L M ∧ e = .returned (.int .u64 ((M : Nat) : Int)) ∧ Ch [] w W' :=
  (callsIn_wide.1 (reached_in 0 hL hlen hfit w hI hT)).mono fun _ _ ⟨M, h1, h2, h3⟩ => ⟨M, h1, h2, Ch.of_below h3⟩
end Go.Proofs.YtpbdmlipdfdblaaDoor

namespace Go.Proofs.YtpbdmlipdfdblaaDoor
open Go.RowKit

attribute [local go_sem] Oper.semAt_some

theorem InsAt.at {w : World} {b off : Nat} {L : List I5} (h : ∀ i (hi : i < L.length), FiveO w b (off + i * 5) L[i]) {k : Nat} (hk : k < L.length) : FiveO w b (off + k * 5) (ia L k) := by
  have := h k hk
  rwa [ia_at hk] at this
theorem take_ia {L : List I5} {k : Nat} (hk : k < L.length) : L.take (k + 1) = L.take k ++ [ia L k] := by
  rw [List.take_succ_eq_append_getElem hk, ia_at hk]

set_option maxRecDepth 10000 in
set_option maxHeartbeats 4000000 in
theorem code_any {w : World} {a : Option Addr} {n cap m : Nat} {L : List I5} (hn : L.length = n) (hm : m ≤ 1000) (hL : InsAt w a L) :
    Calls Tryd.prog 7 #[.slice a n cap, .int .i64 (m : Int)] w fun e w' => ∃ v, e = .returned v ∧ IR w' w.heap.size 59 v (L.take m) ∧ Ch [] w w' := by
  obtain ⟨i0, hI, hz0, hz1, hz2⟩ : ∃ i : TypeInfo, Tryd.prog.info? 59 = some i ∧ i.zero = some (.agg #[.int .i64 0, .int .i64 0, .int .i64 0, .int .i64 0, .int .i64 0]) ∧ i.size = 5 ∧ i.bytes = 40 := by
    refine ⟨_, rfl, by kernel_rfl, by kernel_rfl, by kernel_rfl⟩
  have HN := Lib.hid hn
  have HL := Lib.hid hL
  clear hn hL
  go_enter Tryd.func7, Tryd.ntmps7
  go_wp2_with fail
  go_loopw [5, 6] (fun v i wr => ∃ j : Nat, i = .int .i64 (j : Int) ∧ j ≤ n ∧ j ≤ m ∧ IR wr w.heap.size 59 v (L.take j) ∧ Ch [] w wr) (fun _ i _ => m - (intOf i).toNat)
  case atStart => exact ⟨0, rfl, Nat.zero_le _, Nat.zero_le _, IR.nil _ _ _, Ch.refl _ _⟩
  case round =>
    obtain ⟨j, rfl, hjn, hjm, hr, hc⟩ := hrel
    have HR := Lib.hid hr
    have HC := Lib.hid hc
    clear hr hc
    have HE := Lib.hid (show ¬ (j < n ∧ j < m) → L.take j = L.take m from fun h => by
      have := HN.out
      by_cases h1 : j = m
      · rw [h1]
      · rw [List.take_of_length_le (by omega), List.take_of_length_le (by omega)])
    by_cases h1 : j < n
    · by_cases h2 : j < m
      · have h1' : (j : Int) < (n : Int) := by omega
        have h2' : (j : Int) < (m : Int) := by omega
        rcases HL.out with h0 | ⟨b, off, rfl, hcl⟩
        · exfalso; have := HN.out; rw [h0] at this; simp at this; omega
        · have hf := InsAt.at hcl (k := j) (by have := HN.out; omega)
          obtain ⟨c0, c1, c2, c3, c4⟩ := hf.ch HC.out (by simp)
          have HS := Lib.hid (take_ia (L := L) (k := j) (by have := HN.out; omega))
          have hlen : (L.take j).length = j := by rw [List.length_take]; have := HN.out; omega
          have HLen := Lib.hid hlen
          have HTo := Lib.hid (fun w => to_any (ia L j) w)
          generalize ia L j = x at *
          obtain ⟨op, d, s, o, i⟩ := x
          unfold iv at *
          simp only at *
          have HR1 := HR.out
          unfold IR at HR1
          rw [hlen] at HR1
          have HR2 := Lib.hid HR1
          obtain ⟨av, ac, rfl⟩ := own_form HR1
          clear HR1 hlen hf hcl HL h1 h2
          go_wp2_with fail
          with_reducible refine (HTo.out _).mono ?_
          rintro e w1 ⟨rfl, hc1⟩
          have HC1 := Lib.hid (HC.out.trans hc1)
          have HR3 := Lib.hid (own_ch HR2.out hc1 (by simp))
          clear hc1 c0 c1 c2 c3 c4
          go_wp2_with (at_builtin; go_must (refine wpList_append_own _ rfl _ _ 24 rfl w.heap.size 59 i0 (.agg #[.int .i64 0, .int .i64 0, .int .i64 0, .int .i64 0, .int .i64 0]) 5 40 Tryd.underlying24 hI hz0 hz1 hz2 rfl (by decide) _ j ((L.take j).flatMap fiv) rfl (HR3.out.alloc _) ⟨w1.heap.size, 0, none⟩ 1 1 (fiv ⟨op, d, s, o, i⟩) rfl rfl (cells_five w1 ⟨op, d, s, o, i⟩ _) (by simp [fiv, Value.oneCell']) (by unfold maxLen; omega) (by omega) (by have := HC1.out.size; simp; omega) ?_); intro v3 w3 hown3 hgrow3 hnil3; refine Hid.out ?_)
          refine Lib.hid ?_
          have HC3 := Lib.hid (own_new (HC1.out.alloc _) hgrow3 (Nat.le_refl _) (HR3.out.alloc _))
          have HR4 := Lib.hid (show IR w3 w.heap.size 59 v3 (L.take (j + 1)) by rw [HS.out]; exact IR.snoc (by rw [HLen.out]; exact hown3))
          obtain ⟨av3, ac3, rfl⟩ := own_form hown3
          clear hown3 hgrow3 hnil3
          go_wp2_with fail
          go_roundw
          case rel => exact ⟨j + 1, by go_num, by omega, by omega, HR4.out, HC3.out⟩
          case measure => simp [intOf]; omega
      · have h1' : (j : Int) < (n : Int) := by omega
        have h2' : ¬ (j : Int) < (m : Int) := by omega
        have he := HE.out (fun h => h2 h.2)
        have HR1 := Lib.hid (he ▸ HR.out)
        obtain ⟨av, ac, hf⟩ := own_form HR1.out
        obtain ⟨q, hq⟩ : ∃ q, q = (L.take m).length := ⟨_, rfl⟩
        rw [← hq] at hf
        subst hf
        clear he h1 h2 hq
        go_wp2_with fail
        go_ret
        exact ⟨_, rfl, HR1.out, HC.out⟩
    · have h1' : ¬ (j : Int) < (n : Int) := by omega
      have he := HE.out (fun h => h1 h.1)
      have HR1 := Lib.hid (he ▸ HR.out)
      obtain ⟨av, ac, hf⟩ := own_form HR1.out
      obtain ⟨q, hq⟩ : ∃ q, q = (L.take m).length := ⟨_, rfl⟩
      rw [← hq] at hf
      subst hf
      clear he h1 hq
      go_wp2_with fail
      go_ret
      exact ⟨_, rfl, HR1.out, HC.out⟩

/-- Which helpers are named. -/
def calF (m : Nat) (x : I5) : Nat := if x.op = 72 ∧ hlp x.i = true then Mk.withN m [x.i] else m
def calN (L : List I5) : Nat := L.foldl calF 0
theorem calF_lt {m : Nat} (x : I5) (h : m < 18446744073709551616) : calF m x < 18446744073709551616 := by
  unfold calF
  split
  · exact Mk.withN_lt _ _ h
  · exact h
theorem cal_lt : ∀ (L : List I5) {m : Nat}, m < 18446744073709551616 → L.foldl calF m < 18446744073709551616
  | [], _, h => h
  | x :: L, _, h => cal_lt L (calF_lt x h)
theorem calF_bit (m : Nat) (x : I5) (t : Nat) : (calF m x).testBit t = true ↔ m.testBit t = true ∨ (x.op = 72 ∧ hlp x.i = true ∧ x.i = (t : Int)) := by
  unfold calF
  by_cases h : x.op = 72 ∧ hlp x.i = true
  · rw [if_pos h]
    have h2 := h.2
    unfold hlp at h2
    rw [decide_eq_true_eq] at h2
    obtain ⟨k, hk⟩ : ∃ k : Nat, x.i = (k : Int) := ⟨x.i.toNat, by omega⟩
    rw [hk, withN_bit]
    simp only [Bool.or_eq_true, Bool.and_eq_true, decide_eq_true_eq]
    rw [hk] at h
    constructor
    · rintro (a | ⟨_, a⟩)
      · exact .inl a
      · exact .inr ⟨h.1, h.2, by omega⟩
    · rintro (a | ⟨_, _, a⟩)
      · exact .inl a
      · exact .inr ⟨by omega, by omega⟩
  · rw [if_neg h]
    constructor
    · exact .inl
    · rintro (a | ⟨a, b, _⟩)
      · exact a
      · exact absurd ⟨a, b⟩ h
theorem cal_bit (t : Nat) : ∀ (L : List I5) (m : Nat), (L.foldl calF m).testBit t = true ↔ m.testBit t = true ∨ ∃ x ∈ L, x.op = 72 ∧ hlp x.i = true ∧ x.i = (t : Int)
  | [], m => by simp
  | x :: L, m => by
    rw [List.foldl_cons, cal_bit t L, calF_bit]
    constructor
    · rintro ((a | a) | ⟨y, h1, h2⟩)
      · exact .inl a
      · exact .inr ⟨x, by simp, a⟩
      · exact .inr ⟨y, by simp [h1], h2⟩
    · rintro (a | ⟨y, h1, h2⟩)
      · exact .inl (.inl a)
      · rcases List.mem_cons.1 h1 with rfl | h1
        · exact .inl (.inr h2)
        · exact .inr ⟨y, h1, h2⟩

end Go.Proofs.YtpbdmlipdfdblaaDoor

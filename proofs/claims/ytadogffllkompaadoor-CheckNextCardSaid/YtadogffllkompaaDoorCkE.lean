/-
  Reached, the region that moves an instruction from the open ones to the reached ones: a piece.
-/
import Derived.Deep.RegionWith
import Derived.Deep.RegionHeld3
import Derived.Deep.CutBlock
import Derived.Test.YtadogffllkompaaDoorCkD
import Derived.Test.YtadogffllkompaaDoorCkZ
namespace Go.Proofs.YtadogffllkompaaDoor
open Go.RowKit Go.Shelf

attribute [local go_sem] Oper.semAt_some

/-- A box of a mask. -/
abbrev BM (W : World) (B : Nat) (m : Nat) : Prop := Boxed W B 37 (.int .u64 (m : Int))
theorem ints_one {w : World} {blk : Nat} {a : Int} (h : w.cell? ⟨blk, 0, none⟩ = some (.int .i64 a)) : Mk.IntsAt w (some ⟨blk, 0, none⟩) [a] := by
  refine .inr ⟨blk, 0, rfl, fun i hi => ?_⟩
  obtain rfl : i = 0 := by simpa using hi
  exact h
theorem withL (R : Nat) (hR : R < 18446744073709551616) (a : Int) (blk : Nat) (w : World) (h : w.cell? ⟨blk, 0, none⟩ = some (.int .i64 a)) : Calls Tryd.prog 28 #[.int .u64 (R : Int), .slice (some ⟨blk, 0, none⟩) 1 1] w fun e w' => e = .returned (.int .u64 ((Mk.withN R [a] : Nat) : Int)) ∧ w = w' :=
  Mk.with_any R hR (some ⟨blk, 0, none⟩) 1 [a] w (by simp) (ints_one h)
theorem withoutL (R : Nat) (hR : R < 18446744073709551616) (a : Int) (blk : Nat) (w : World) (h : w.cell? ⟨blk, 0, none⟩ = some (.int .i64 a)) : Calls Tryd.prog 29 #[.int .u64 (R : Int), .slice (some ⟨blk, 0, none⟩) 1 1] w fun e w' => e = .returned (.int .u64 ((Mk.withoutN R [a] : Nat) : Int)) ∧ w = w' :=
  Mk.without_any R hR (some ⟨blk, 0, none⟩) 1 [a] w (by simp) (ints_one h)

set_option maxRecDepth 100000 in
set_option maxHeartbeats 4000000 in
theorem move_piece {Br Bo R O : Nat} {a : Int} {W : World} (hne : Br ≠ Bo) (hR : R < 18446744073709551616) (hO : O < 18446744073709551616) (hr : BM W Br R) (ho : BM W Bo O) {Q : Exit → Act → World → Prop}
    {u0 u1 u2 u6 u7 u8 u9 u10 u11 u12 u13 u14 u15 u16 u17 u18 u19 u20 u21 u22 u23 u24 u25 u26 u27 u28 u29 u30 u31 u32 u33 u34 u35 u36 u37 u38 u39 u40 u41 u42 u43 u44 : Value} {ds : List Deferred}
    (hQ : ∀ ⦃u24 u25 u26 u27 u28 u29 u30 u31 : Value⦄ ⦃W' : World⦄, BM W' Br (Mk.withN R [a]) → BM W' Bo (Mk.withoutN O [a]) → Ch [Br, Bo] W W' → Q .normal { tmps := #[u0, u1, u2, .pointer (some ⟨Br, 0, none⟩), .pointer (some ⟨Bo, 0, none⟩), .int .i64 a, u6, u7, u8, u9, u10, u11, u12, u13, u14, u15, u16, u17, u18, u19, u20, u21, u22, u23, u24, u25, u26, u27, u28, u29, u30, u31, u32, u33, u34, u35, u36, u37, u38, u39, u40, u41, u42, u43, u44], defers := ds } W') :
    Code.wp Tryd.prog (codeOf [1, 1, 1, 0, 1, 0, 0, 1, 0, 0, 0] (Tryd.f15.body.getD .skip)) Q { tmps := #[u0, u1, u2, .pointer (some ⟨Br, 0, none⟩), .pointer (some ⟨Bo, 0, none⟩), .int .i64 a, u6, u7, u8, u9, u10, u11, u12, u13, u14, u15, u16, u17, u18, u19, u20, u21, u22, u23, u24, u25, u26, u27, u28, u29, u30, u31, u32, u33, u34, u35, u36, u37, u38, u39, u40, u41, u42, u43, u44], defers := ds } W := by
  have c1 := hr.cell
  have c2 := ho.cell
  have HQ := Lib.hid hQ
  have HW := Lib.hid (withL R hR a)
  have HO := Lib.hid (withoutL O hO a)
  have G1 := Lib.hid (show ((W.alloc (.cells #[.int .i64 a] 3)).drew).cell? ⟨W.heap.size, 0, none⟩ = some (.int .i64 a) from (cell_new W _ _).1)
  have G2 := Lib.hid (show (((W.alloc (.cells #[.int .i64 a] 3)).alloc (.cells #[.int .i64 a] 3)).drew).cell? ⟨W.heap.size, 0, none⟩ = some (.int .i64 a) from (World.cell?_alloc_past _ _ _ (by simp)).trans (cell_new W _ _).1)
  have G3 := Lib.hid (show (((W.alloc (.cells #[.int .i64 a] 3)).alloc (.cells #[.int .i64 a] 3)).drew).cell? ⟨W.heap.size + 1, 0, none⟩ = some (.int .i64 a) from by have := (cell_new (W.alloc (.cells #[.int .i64 a] 3)) (.int .i64 a) 3).1; rw [World.size_alloc] at this; exact this)
  have er0 : W.drew.cell? ⟨Br, 0, none⟩ = some (.int .u64 (R : Int)) := hr.cell
  have fr0 : W.drew.frozen? ⟨Br, 0, none⟩ = false := hr.frozen
  have eo0 : W.drew.cell? ⟨Bo, 0, none⟩ = some (.int .u64 (O : Int)) := ho.cell
  have fo0 : W.drew.frozen? ⟨Bo, 0, none⟩ = false := ho.frozen
  have er1 : ((W.alloc (.cells #[.int .i64 a] 3)).drew).cell? ⟨Br, 0, none⟩ = some (.int .u64 (R : Int)) := (hr.alloc _).cell
  have fr1 : ((W.alloc (.cells #[.int .i64 a] 3)).drew).frozen? ⟨Br, 0, none⟩ = false := (hr.alloc _).frozen
  have eo1 : ((W.alloc (.cells #[.int .i64 a] 3)).drew).cell? ⟨Bo, 0, none⟩ = some (.int .u64 (O : Int)) := (ho.alloc _).cell
  have fo1 : ((W.alloc (.cells #[.int .i64 a] 3)).drew).frozen? ⟨Bo, 0, none⟩ = false := (ho.alloc _).frozen
  have er2 : (((W.alloc (.cells #[.int .i64 a] 3)).alloc (.cells #[.int .i64 a] 3)).drew).cell? ⟨Br, 0, none⟩ = some (.int .u64 (R : Int)) := ((hr.alloc _).alloc _).cell
  have fr2 : (((W.alloc (.cells #[.int .i64 a] 3)).alloc (.cells #[.int .i64 a] 3)).drew).frozen? ⟨Br, 0, none⟩ = false := ((hr.alloc _).alloc _).frozen
  have eo2 : (((W.alloc (.cells #[.int .i64 a] 3)).alloc (.cells #[.int .i64 a] 3)).drew).cell? ⟨Bo, 0, none⟩ = some (.int .u64 (O : Int)) := ((ho.alloc _).alloc _).cell
  have fo2 : (((W.alloc (.cells #[.int .i64 a] 3)).alloc (.cells #[.int .i64 a] 3)).drew).frozen? ⟨Bo, 0, none⟩ = false := ((ho.alloc _).alloc _).frozen
  have eo3 : ((((W.alloc (.cells #[.int .i64 a] 3)).alloc (.cells #[.int .i64 a] 3)).drew).setCell ⟨Br, 0, none⟩ (.int .u64 ((Mk.withN R [a] : Nat) : Int))).cell? ⟨Bo, 0, none⟩ = some (.int .u64 (O : Int)) := (((ho.alloc _).alloc _).other (fun e => hne e.symm) _).cell
  have fo3 : ((((W.alloc (.cells #[.int .i64 a] 3)).alloc (.cells #[.int .i64 a] 3)).drew).setCell ⟨Br, 0, none⟩ (.int .u64 ((Mk.withN R [a] : Nat) : Int))).frozen? ⟨Bo, 0, none⟩ = false := (((ho.alloc _).alloc _).other (fun e => hne e.symm) _).frozen
  have eo4 : ((((W.alloc (.cells #[.int .i64 a] 3)).alloc (.cells #[.int .i64 a] 3)).setCell ⟨Br, 0, none⟩ (.int .u64 ((Mk.withN R [a] : Nat) : Int))).drew).cell? ⟨Bo, 0, none⟩ = some (.int .u64 (O : Int)) := (((ho.alloc _).alloc _).other (fun e => hne e.symm) _).cell
  have fo4 : ((((W.alloc (.cells #[.int .i64 a] 3)).alloc (.cells #[.int .i64 a] 3)).setCell ⟨Br, 0, none⟩ (.int .u64 ((Mk.withN R [a] : Nat) : Int))).drew).frozen? ⟨Bo, 0, none⟩ = false := (((ho.alloc _).alloc _).other (fun e => hne e.symm) _).frozen
  have HF := Lib.hid (show BM ((((W.alloc (.cells #[.int .i64 a] 3)).alloc (.cells #[.int .i64 a] 3)).drew.setCell ⟨Br, 0, none⟩ (.int .u64 ((Mk.withN R [a] : Nat) : Int))).setCell ⟨Bo, 0, none⟩ (.int .u64 ((Mk.withoutN O [a] : Nat) : Int))) Br (Mk.withN R [a]) ∧ BM ((((W.alloc (.cells #[.int .i64 a] 3)).alloc (.cells #[.int .i64 a] 3)).drew.setCell ⟨Br, 0, none⟩ (.int .u64 ((Mk.withN R [a] : Nat) : Int))).setCell ⟨Bo, 0, none⟩ (.int .u64 ((Mk.withoutN O [a] : Nat) : Int))) Bo (Mk.withoutN O [a]) ∧ Ch [Br, Bo] W ((((W.alloc (.cells #[.int .i64 a] 3)).alloc (.cells #[.int .i64 a] 3)).drew.setCell ⟨Br, 0, none⟩ (.int .u64 ((Mk.withN R [a] : Nat) : Int))).setCell ⟨Bo, 0, none⟩ (.int .u64 ((Mk.withoutN O [a] : Nat) : Int))) from by
    have h1 : BM ((W.alloc (.cells #[.int .i64 a] 3)).alloc (.cells #[.int .i64 a] 3)).drew Br R := (hr.alloc _).alloc _
    have h2 : BM ((W.alloc (.cells #[.int .i64 a] 3)).alloc (.cells #[.int .i64 a] 3)).drew Bo O := (ho.alloc _).alloc _
    refine ⟨(h1.set _).other hne _, ((h2.other (fun e => hne e.symm) _).set _), ?_⟩
    exact ((((((Ch.refl _ W).alloc _).alloc _).drew).setCell (p := ⟨Br, 0, none⟩) (by simp) _).setCell (p := ⟨Bo, 0, none⟩) (by simp) _))
  clear hQ hR hO hr ho
  simp only [codeOf, Tryd.f15, Option.getD_some]
  refine wp_region_noPanic ?_
  refine wp_region_last2 [_, _, _, _, _, _, _, _] _ _ rfl (by kernel_rfl) (by kernel_rfl) (by kernel_rfl) (fun w' => w'.cell? ⟨Br, 0, none⟩ = some (.int .u64 (R : Int)) ∧ w'.cell? ⟨Bo, 0, none⟩ = some (.int .u64 (O : Int))) ?_
  have hHeld : (fun w' : World => w'.cell? ⟨Br, 0, none⟩ = some (.int .u64 (R : Int)) ∧ w'.cell? ⟨Bo, 0, none⟩ = some (.int .u64 (O : Int))) W.drew := ⟨er0, eo0⟩
  refine wpAnyH_take (i := 0) (oi := { dst := some 24, op := _, type := _, pos := _, after := _, guard := _ }) (v := ?v1_0) rfl (by kernel_rfl) (by kernel_rfl) (by kernel_rfl) (fun _ _ _ h => h) (.inl ⟨by rfl, ?h1_0⟩) (by assumption) ?_
  case h1_0 => intro w hSw; obtain ⟨hs1, hs2⟩ := hSw; go_simp; (try with_reducible rfl)
  try simp only [Act.put, List.setIfInBounds_toArray, List.set_cons_zero, List.set_cons_succ]
  refine wpAnyH_take (i := 1) (oi := { dst := some 25, op := _, type := _, pos := _, after := _, guard := _ }) (v := ?v2_1) rfl (by kernel_rfl) (by kernel_rfl) (by kernel_rfl) (fun _ _ _ h => h) (.inl ⟨by rfl, ?h2_1⟩) (by assumption) ?_
  case h2_1 => intro w hSw; obtain ⟨hs1, hs2⟩ := hSw; go_simp; (try with_reducible rfl)
  try simp only [Act.put, List.setIfInBounds_toArray, List.set_cons_zero, List.set_cons_succ]
  refine wpAnyH_take (i := 4) (oi := { dst := some 28, op := _, type := _, pos := _, after := _, guard := _ }) (v := ?v3_4) rfl (by kernel_rfl) (by kernel_rfl) (by kernel_rfl) (fun _ _ _ h => h) (.inl ⟨by rfl, ?h3_4⟩) (by assumption) ?_
  case h3_4 => intro w hSw; obtain ⟨hs1, hs2⟩ := hSw; go_simp; (try with_reducible rfl)
  try simp only [Act.put, List.setIfInBounds_toArray, List.set_cons_zero, List.set_cons_succ]
  refine wpAnyH_take (i := 5) (oi := { dst := some 29, op := _, type := _, pos := _, after := _, guard := _ }) (v := ?v4_5) rfl (by kernel_rfl) (by kernel_rfl) (by kernel_rfl) (fun _ _ _ h => h) (.inl ⟨by rfl, ?h4_5⟩) (by assumption) ?_
  case h4_5 => intro w hSw; obtain ⟨hs1, hs2⟩ := hSw; go_simp; (try with_reducible rfl)
  try simp only [Act.put, List.setIfInBounds_toArray, List.set_cons_zero, List.set_cons_succ]
  refine wpAnyH_ready (rs := [2, 6]) (by kernel_rfl) (by simp) ?_
  refine AllReadyH.cons (o := { dst := some 26, op := _, type := _, pos := _, after := _, guard := _ }) rfl (fun K hK => ?_) (AllReadyH.cons (o := { dst := some 30, op := _, type := _, pos := _, after := _, guard := _ }) rfl (fun K hK => ?_) AllReadyH.nil)
  · go_simp
    skip
    (try go_wp2_with fail)
    refine hK.out _ _ ⟨er1, eo1⟩ (fun hHeld => ?_)
    clear hK K
    try simp only [Act.put, List.setIfInBounds_toArray, List.set_cons_zero, List.set_cons_succ]
    refine wpAnyH_ready (rs := [3, 6]) (by kernel_rfl) (by simp) ?_
    refine AllReadyH.cons (o := { dst := some 27, op := _, type := _, pos := _, after := _, guard := _ }) rfl (fun K hK => ?_) (AllReadyH.cons (o := { dst := some 30, op := _, type := _, pos := _, after := _, guard := _ }) rfl (fun K hK => ?_) AllReadyH.nil)
    · go_simp
      with_reducible refine (HW.out _ _ G1.out).mono ?_; rintro e w9 ⟨rfl, rfl⟩
      (try go_wp2_with fail)
      refine hK.out _ _ ⟨er1, eo1⟩ (fun hHeld => ?_)
      clear hK K
      try simp only [Act.put, List.setIfInBounds_toArray, List.set_cons_zero, List.set_cons_succ]
      refine wpAnyH_ready (rs := [6]) (by kernel_rfl) (by simp) ?_
      refine AllReadyH.cons (o := { dst := some 30, op := _, type := _, pos := _, after := _, guard := _ }) rfl (fun K hK => ?_) AllReadyH.nil
      go_simp
      skip
      (try go_wp2_with fail)
      refine hK.out _ _ ⟨er2, eo2⟩ (fun hHeld => ?_)
      clear hK K
      try simp only [Act.put, List.setIfInBounds_toArray, List.set_cons_zero, List.set_cons_succ]
      refine wpAnyH_ready (rs := [7]) (by kernel_rfl) (by simp) ?_
      refine AllReadyH.cons (o := { dst := some 31, op := _, type := _, pos := _, after := _, guard := _ }) rfl (fun K hK => ?_) AllReadyH.nil
      go_simp
      with_reducible refine (HO.out _ _ G3.out).mono ?_; rintro e w9 ⟨rfl, rfl⟩
      (try go_wp2_with fail)
      refine hK.out _ _ ⟨er2, eo2⟩ (fun hHeld => ?_)
      clear hK K
      try simp only [Act.put, List.setIfInBounds_toArray, List.set_cons_zero, List.set_cons_succ]
      refine wpAnyH_done (by kernel_rfl) ?_ _
      simp only [lastPost]
      unfold Oper.wp
      go_simp
      exact HQ.out (HF.out).1 (HF.out).2.1 (HF.out).2.2
    · go_simp
      skip
      (try go_wp2_with fail)
      refine hK.out _ _ ⟨er2, eo2⟩ (fun hHeld => ?_)
      clear hK K
      try simp only [Act.put, List.setIfInBounds_toArray, List.set_cons_zero, List.set_cons_succ]
      refine wpAnyH_ready (rs := [3]) (by kernel_rfl) (by simp) ?_
      refine AllReadyH.cons (o := { dst := some 27, op := _, type := _, pos := _, after := _, guard := _ }) rfl (fun K hK => ?_) AllReadyH.nil
      go_simp
      with_reducible refine (HW.out _ _ G2.out).mono ?_; rintro e w9 ⟨rfl, rfl⟩
      (try go_wp2_with fail)
      refine hK.out _ _ ⟨er2, eo2⟩ (fun hHeld => ?_)
      clear hK K
      try simp only [Act.put, List.setIfInBounds_toArray, List.set_cons_zero, List.set_cons_succ]
      refine wpAnyH_ready (rs := [7]) (by kernel_rfl) (by simp) ?_
      refine AllReadyH.cons (o := { dst := some 31, op := _, type := _, pos := _, after := _, guard := _ }) rfl (fun K hK => ?_) AllReadyH.nil
      go_simp
      with_reducible refine (HO.out _ _ G3.out).mono ?_; rintro e w9 ⟨rfl, rfl⟩
      (try go_wp2_with fail)
      refine hK.out _ _ ⟨er2, eo2⟩ (fun hHeld => ?_)
      clear hK K
      try simp only [Act.put, List.setIfInBounds_toArray, List.set_cons_zero, List.set_cons_succ]
      refine wpAnyH_done (by kernel_rfl) ?_ _
      simp only [lastPost]
      unfold Oper.wp
      go_simp
      exact HQ.out (HF.out).1 (HF.out).2.1 (HF.out).2.2
  · go_simp
    skip
    (try go_wp2_with fail)
    refine hK.out _ _ ⟨er1, eo1⟩ (fun hHeld => ?_)
    clear hK K
    try simp only [Act.put, List.setIfInBounds_toArray, List.set_cons_zero, List.set_cons_succ]
    refine wpAnyH_ready (rs := [2]) (by kernel_rfl) (by simp) ?_
    refine AllReadyH.cons (o := { dst := some 26, op := _, type := _, pos := _, after := _, guard := _ }) rfl (fun K hK => ?_) AllReadyH.nil
    go_simp
    skip
    (try go_wp2_with fail)
    refine hK.out _ _ ⟨er2, eo2⟩ (fun hHeld => ?_)
    clear hK K
    try simp only [Act.put, List.setIfInBounds_toArray, List.set_cons_zero, List.set_cons_succ]
    refine wpAnyH_ready (rs := [3]) (by kernel_rfl) (by simp) ?_
    refine AllReadyH.cons (o := { dst := some 27, op := _, type := _, pos := _, after := _, guard := _ }) rfl (fun K hK => ?_) AllReadyH.nil
    go_simp
    with_reducible refine (HW.out _ _ G3.out).mono ?_; rintro e w9 ⟨rfl, rfl⟩
    (try go_wp2_with fail)
    refine hK.out _ _ ⟨er2, eo2⟩ (fun hHeld => ?_)
    clear hK K
    try simp only [Act.put, List.setIfInBounds_toArray, List.set_cons_zero, List.set_cons_succ]
    refine wpAnyH_ready (rs := [7]) (by kernel_rfl) (by simp) ?_
    refine AllReadyH.cons (o := { dst := some 31, op := _, type := _, pos := _, after := _, guard := _ }) rfl (fun K hK => ?_) AllReadyH.nil
    go_simp
    with_reducible refine (HO.out _ _ G2.out).mono ?_; rintro e w9 ⟨rfl, rfl⟩
    (try go_wp2_with fail)
    refine hK.out _ _ ⟨er2, eo2⟩ (fun hHeld => ?_)
    clear hK K
    try simp only [Act.put, List.setIfInBounds_toArray, List.set_cons_zero, List.set_cons_succ]
    refine wpAnyH_done (by kernel_rfl) ?_ _
    simp only [lastPost]
    unfold Oper.wp
    go_simp
    exact HQ.out (HF.out).1 (HF.out).2.1 (HF.out).2.2
end Go.Proofs.YtadogffllkompaaDoor

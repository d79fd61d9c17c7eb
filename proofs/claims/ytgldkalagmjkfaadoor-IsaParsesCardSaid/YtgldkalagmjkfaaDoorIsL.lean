/-
  The program's Text: a part (what the operation uses, whether it stores).
-/
import Derived.Test.YtgldkalagmjkfaaDoorIsJ
import Derived.Deep.RegionHeld3
import Derived.Deep.CutBlock
namespace Go.Proofs.YtgldkalagmjkfaaDoor
open Go.RowKit Go.Lib

attribute [local go_sem] Oper.semAt_some

/-- Four booleans stored over others. -/
def st4 (w : World) (U : Nat) (p q r s : Bool) : World := (((w.setCell ⟨U, 0, none⟩ (.bool p)).setCell ⟨U, 1, none⟩ (.bool q)).setCell ⟨U, 2, none⟩ (.bool r)).setCell ⟨U, 3, none⟩ (.bool s)
theorem st4_bo {w : World} {U : Nat} {a b c d : Bool} (h : Bo4 w U a b c d) (p q r s : Bool) : Bo4 (st4 w U p q r s) U p q r s := by
  have n01 := addr_ne_off (g := U) (show (0 : Nat) ≠ 1 by decide)
  have n02 := addr_ne_off (g := U) (show (0 : Nat) ≠ 2 by decide)
  have n03 := addr_ne_off (g := U) (show (0 : Nat) ≠ 3 by decide)
  have n12 := addr_ne_off (g := U) (show (1 : Nat) ≠ 2 by decide)
  have n13 := addr_ne_off (g := U) (show (1 : Nat) ≠ 3 by decide)
  have n23 := addr_ne_off (g := U) (show (2 : Nat) ≠ 3 by decide)
  refine ⟨?_, ?_, ?_, ?_⟩
  · exact setCell_other (setCell_other (setCell_other (setCell_same h.c0) n01.symm) n02.symm) n03.symm
  · exact setCell_other (setCell_other (setCell_same (setCell_other h.c1 n01)) n12.symm) n13.symm
  · exact setCell_other (setCell_same (setCell_other (setCell_other h.c2 n02) n12)) n23.symm
  · exact setCell_same (setCell_other (setCell_other (setCell_other h.c3 n03) n13) n23)
theorem st4_ch {a w : World} {U : Nat} (h : Ch [] a w) (hU : a.heap.size ≤ U) (p q r s : Bool) : Ch [] a (st4 w U p q r s) :=
  chSetNew (chSetNew (chSetNew (chSetNew h hU _) hU _) hU _) hU _
theorem st4_other {w : World} {U B j : Nat} {v : Value} (h : w.cell? ⟨B, j, none⟩ = some v) (hne : U ≠ B) (p q r s : Bool) : (st4 w U p q r s).cell? ⟨B, j, none⟩ = some v :=
  setCell_other (setCell_other (setCell_other (setCell_other h (addr_ne_block hne)) (addr_ne_block hne)) (addr_ne_block hne)) (addr_ne_block hne)

set_option maxRecDepth 100000 in
set_option maxHeartbeats 4000000 in
theorem text5a {w3 : World} {B : Nat} {op d s o i : Int} {u1' u2' u3' u4' : Bool} (hF : Five w3 B ⟨op, d, s, o, i⟩) (h65 : (op == 65) = true) (hU : ∀ w, Calls Tryd.prog 26 #[.int .i64 op] w fun e w' => e = .returned (.agg #[.bool u1', .bool u2', .bool u3', .bool u4']) ∧ Ch [] w w')
    {u0 u2 u3 u4 u5 u6 u7 u8 u9 u10 u11 u12 u13 u14 u15 u16 u17 u18 u19 u20 u21 u22 u23 u24 u25 u26 u27 u28 u29 u30 u31 u32 u33 u34 u35 u36 u37 u38 u39 u40 u41 u42 u43 u44 u45 u46 u47 u48 u49 u50 u51 u52 u53 u54 u55 u56 u57 u58 u59 u60 u61 u62 u63 u64 u65 u66 u67 u68 u69 u70 : Value} {Q : Exit → Act → World → Prop}
    (hQ : ∀ ⦃x6 x7 x16 x17 x18 x19 x20 x21 x22 x23 x24 x25 x26 : Value⦄ ⦃wq : World⦄, (∃ U, x6 = .pointer (some ⟨U, 0, none⟩) ∧ x7 = .bool true ∧ w3.heap.size ≤ U ∧ Bo4 wq U u1' u2' u3' u4' ∧ Ch [] w3 wq) → Q .normal { tmps := #[u0, .pointer (some ⟨B, 0, none⟩), u2, u3, u4, u5, x6, x7, u8, u9, u10, u11, u12, u13, u14, u15, x16, x17, x18, x19, x20, x21, x22, x23, x24, x25, x26, u27, u28, u29, u30, u31, u32, u33, u34, u35, u36, u37, u38, u39, u40, u41, u42, u43, u44, u45, u46, u47, u48, u49, u50, u51, u52, u53, u54, u55, u56, u57, u58, u59, u60, u61, u62, u63, u64, u65, u66, u67, u68, u69, u70], defers := [] } wq) :
    Code.wp Tryd.prog (codeOf [1, 1, 1, 1, 0] (Tryd.f16.body.getD .skip)) Q { tmps := #[u0, .pointer (some ⟨B, 0, none⟩), u2, u3, u4, u5, u6, u7, u8, u9, u10, u11, u12, u13, u14, u15, u16, u17, u18, u19, u20, u21, u22, u23, u24, u25, u26, u27, u28, u29, u30, u31, u32, u33, u34, u35, u36, u37, u38, u39, u40, u41, u42, u43, u44, u45, u46, u47, u48, u49, u50, u51, u52, u53, u54, u55, u56, u57, u58, u59, u60, u61, u62, u63, u64, u65, u66, u67, u68, u69, u70], defers := [] } w3 := by
  simp only [codeOf, Tryd.f16, Option.getD_some]
  have h1 := hF.c0
  simp only at h1
  have hlt := hF.lt
  have HF := Lib.hid hF
  have HQ := Lib.hid hQ
  have HU := Lib.hid hU
  have k0 := (hF.ch ((Ch.refl [] w3).alloc (.cells #[.bool false, .bool false, .bool false, .bool false] 57)) (by simp)).c0
  simp only at k0
  have hnb : ¬ w3.heap.size = B := by omega
  clear hF hQ hU hlt
  refine wp_region_noPanic ?_
  refine wp_region_held_drew (S := fun w' => w'.cell? ⟨B, 0, none⟩ = some (.int .i64 op)) (by kernel_rfl) h1 (fun hHeld => ?_)
  refine wpAnyH_take (i := 0) (oi := { dst := some 16, op := _, type := _, pos := _, after := _, guard := _ }) (v := ?v5_0) rfl (by kernel_rfl) (by kernel_rfl) (by kernel_rfl) (fun _ _ _ h => h) (.inl ⟨by rfl, ?h5_0⟩) (by assumption) ?_
  case h5_0 => intro w hSw; (try simp only at hSw); go_simp; (try with_reducible rfl)
  try simp only [Act.put, List.setIfInBounds_toArray, List.set_cons_zero, List.set_cons_succ]
  refine wpAnyH_take (i := 1) (oi := { dst := some 17, op := _, type := _, pos := _, after := _, guard := _ }) (v := ?v6_1) rfl (by kernel_rfl) (by kernel_rfl) (by kernel_rfl) (fun _ _ _ h => h) (.inl ⟨by rfl, ?h6_1⟩) (by assumption) ?_
  case h6_1 => intro w hSw; (try simp only at hSw); go_simp; (try with_reducible rfl)
  try simp only [Act.put, List.setIfInBounds_toArray, List.set_cons_zero, List.set_cons_succ]
  refine wpAnyH_take (i := 3) (oi := { dst := some 19, op := _, type := _, pos := _, after := _, guard := _ }) (v := ?v7_3) rfl (by kernel_rfl) (by kernel_rfl) (by kernel_rfl) (fun _ _ _ h => h) (.inl ⟨by rfl, ?h7_3⟩) (by assumption) ?_
  case h7_3 => intro w hSw; (try simp only at hSw); go_simp; (try with_reducible rfl)
  try simp only [Act.put, List.setIfInBounds_toArray, List.set_cons_zero, List.set_cons_succ]
  refine wpAnyH_take (i := 4) (oi := { dst := some 20, op := _, type := _, pos := _, after := _, guard := _ }) (v := ?v8_4) rfl (by kernel_rfl) (by kernel_rfl) (by kernel_rfl) (fun _ _ _ h => h) (.inl ⟨by rfl, ?h8_4⟩) (by assumption) ?_
  case h8_4 => intro w hSw; (try simp only at hSw); go_simp; (try with_reducible rfl)
  try simp only [Act.put, List.setIfInBounds_toArray, List.set_cons_zero, List.set_cons_succ]
  refine wpAnyH_take (i := 5) (oi := { dst := some 21, op := _, type := _, pos := _, after := _, guard := _ }) (v := ?v9_5) rfl (by kernel_rfl) (by kernel_rfl) (by kernel_rfl) (fun _ _ _ h => h) (.inl ⟨by rfl, ?h9_5⟩) (by assumption) ?_
  case h9_5 => intro w hSw; (try simp only at hSw); go_simp; (try with_reducible rfl)
  try simp only [Act.put, List.setIfInBounds_toArray, List.set_cons_zero, List.set_cons_succ]
  refine wpAnyH_ready (rs := [2, 11]) (by kernel_rfl) (by simp) ?_
  refine AllReadyH.cons (o := { dst := some 18, op := _, type := _, pos := _, after := _, guard := _ }) rfl (fun K hK => ?_) (AllReadyH.cons (o := { dst := some 6, op := _, type := _, pos := _, after := _, guard := _ }) rfl (fun K hK => ?_) AllReadyH.nil)
  · go_simp
    with_reducible refine (HU.out _).mono ?_; rintro e w2 ⟨rfl, hc2⟩; have HC2 := Lib.hid ((Ch.refl [] w3).drew.trans hc2); have k1 := (HF.out.ch HC2.out (by simp)).c0; simp only at k1; have k2 := (HF.out.ch (HC2.out.alloc (.cells #[.bool false, .bool false, .bool false, .bool false] 57)) (by simp)).c0; simp only at k2; have k3 := (HF.out.ch (HC2.out.alloc (.cells #[.bool u1', .bool u2', .bool u3', .bool u4'] 57)) (by simp)).c0; simp only at k3; clear hc2
    (try go_wp2_with fail)
    refine hK.out _ _ k1 (fun hHeld => ?_)
    clear hK K
    try simp only [Act.put, List.setIfInBounds_toArray, List.set_cons_zero, List.set_cons_succ]
    refine wpAnyH_take (i := 6) (oi := { dst := some 22, op := _, type := _, pos := _, after := _, guard := _ }) (v := ?v1_6) rfl (by kernel_rfl) (by kernel_rfl) (by kernel_rfl) (fun _ _ _ h => h) (.inl ⟨by rfl, ?h1_6⟩) (by assumption) ?_
    case h1_6 => intro w hSw; (try simp only at hSw); go_simp; (try with_reducible rfl)
    try simp only [Act.put, List.setIfInBounds_toArray, List.set_cons_zero, List.set_cons_succ]
    refine wpAnyH_take (i := 7) (oi := { dst := some 23, op := _, type := _, pos := _, after := _, guard := _ }) (v := undef) rfl (by kernel_rfl) (by kernel_rfl) (by kernel_rfl) (fun _ _ _ h => h) (.inr ⟨by rfl, rfl⟩) (by assumption) ?_
    try simp only [Act.put, List.setIfInBounds_toArray, List.set_cons_zero, List.set_cons_succ]
    refine wpAnyH_take (i := 8) (oi := { dst := some 24, op := _, type := _, pos := _, after := _, guard := _ }) (v := undef) rfl (by kernel_rfl) (by kernel_rfl) (by kernel_rfl) (fun _ _ _ h => h) (.inr ⟨by rfl, rfl⟩) (by assumption) ?_
    try simp only [Act.put, List.setIfInBounds_toArray, List.set_cons_zero, List.set_cons_succ]
    refine wpAnyH_take (i := 9) (oi := { dst := some 25, op := _, type := _, pos := _, after := _, guard := _ }) (v := undef) rfl (by kernel_rfl) (by kernel_rfl) (by kernel_rfl) (fun _ _ _ h => h) (.inr ⟨by rfl, rfl⟩) (by assumption) ?_
    try simp only [Act.put, List.setIfInBounds_toArray, List.set_cons_zero, List.set_cons_succ]
    refine wpAnyH_take (i := 10) (oi := { dst := some 26, op := _, type := _, pos := _, after := _, guard := _ }) (v := ?v2_10) rfl (by kernel_rfl) (by kernel_rfl) (by kernel_rfl) (fun _ _ _ h => h) (.inl ⟨by rfl, ?h2_10⟩) (by assumption) ?_
    case h2_10 => intro w hSw; (try simp only at hSw); go_simp; (try with_reducible rfl)
    try simp only [Act.put, List.setIfInBounds_toArray, List.set_cons_zero, List.set_cons_succ]
    refine wpAnyH_ready (rs := [11]) (by kernel_rfl) (by simp) ?_
    refine AllReadyH.cons (o := { dst := some 6, op := _, type := _, pos := _, after := _, guard := _ }) rfl (fun K hK => ?_) AllReadyH.nil
    go_simp
    skip
    (try go_wp2_with fail)
    refine hK.out _ _ k2 (fun hHeld => ?_)
    clear hK K
    try simp only [Act.put, List.setIfInBounds_toArray, List.set_cons_zero, List.set_cons_succ]
    refine wpAnyH_ready (rs := [12]) (by kernel_rfl) (by simp) ?_
    refine AllReadyH.cons (o := { dst := none, op := _, type := _, pos := _, after := _, guard := _ }) rfl (fun K hK => ?_) AllReadyH.nil
    go_simp
    skip
    (try go_wp2_with fail)
    refine hK.out _ _ k3 (fun hHeld => ?_)
    clear hK K
    try simp only [Act.put, List.setIfInBounds_toArray, List.set_cons_zero, List.set_cons_succ]
    refine wpAnyH_take (i := 13) (oi := { dst := some 7, op := _, type := _, pos := _, after := _, guard := _ }) (v := ?v3_13) rfl (by kernel_rfl) (by kernel_rfl) (by kernel_rfl) (fun _ _ _ h => h) (.inl ⟨by rfl, ?h3_13⟩) (by assumption) ?_
    case h3_13 => intro w hSw; (try simp only at hSw); go_simp; (try with_reducible rfl)
    try simp only [Act.put, List.setIfInBounds_toArray, List.set_cons_zero, List.set_cons_succ]
    refine wpAnyH_done (by kernel_rfl) ?_ _
    refine NoPanic.normal ?_
    exact HQ.out ⟨w2.heap.size, rfl, rfl, HC2.out.size, Bo4.new w2 u1' u2' u3' u4' 57, HC2.out.alloc _⟩
  · have HA := Lib.hid (((Ch.refl [] w3).alloc (.cells #[.bool false, .bool false, .bool false, .bool false] 57)).drew)
    have HZ0 := Lib.hid (And.intro ((Bo4.new w3 false false false false 57).ch (Ch.refl [] _).drew (by simp)) (fun j => show (w3.alloc (.cells #[.bool false, .bool false, .bool false, .bool false] 57)).drew.frozen? ⟨w3.heap.size, j, none⟩ = false from World.frozen?_alloc_new w3 _ _ _))
    go_simp
    skip
    (try go_wp2_with fail)
    refine hK.out _ _ k0 (fun hHeld => ?_)
    clear hK K
    try simp only [Act.put, List.setIfInBounds_toArray, List.set_cons_zero, List.set_cons_succ]
    refine wpAnyH_ready (rs := [2]) (by kernel_rfl) (by simp) ?_
    refine AllReadyH.cons (o := { dst := some 18, op := _, type := _, pos := _, after := _, guard := _ }) rfl (fun K hK => ?_) AllReadyH.nil
    go_simp
    with_reducible refine (HU.out _).mono ?_; rintro e w2 ⟨rfl, hc2⟩; have HC2 := Lib.hid (HA.out.trans hc2); have k1 := (HF.out.ch HC2.out (by simp)).c0; simp only at k1; have HZ := Lib.hid (HZ0.out.1.ch hc2 (by simp)); have z0 := HZ.out.c0; have z1 := HZ.out.c1; have z2 := HZ.out.c2; have z3 := HZ.out.c3; have z4 : ∀ j, w2.frozen? ⟨w3.heap.size, j, none⟩ = false := fun j => (hc2.frozen (p := ⟨w3.heap.size, j, none⟩) (by simp) (by simp)).trans (HZ0.out.2 j); clear hc2
    (try go_wp2_with fail)
    refine hK.out _ _ k1 (fun hHeld => ?_)
    clear hK K
    try simp only [Act.put, List.setIfInBounds_toArray, List.set_cons_zero, List.set_cons_succ]
    refine wpAnyH_take (i := 6) (oi := { dst := some 22, op := _, type := _, pos := _, after := _, guard := _ }) (v := ?v1_6) rfl (by kernel_rfl) (by kernel_rfl) (by kernel_rfl) (fun _ _ _ h => h) (.inl ⟨by rfl, ?h1_6⟩) (by assumption) ?_
    case h1_6 => intro w hSw; (try simp only at hSw); go_simp; (try with_reducible rfl)
    try simp only [Act.put, List.setIfInBounds_toArray, List.set_cons_zero, List.set_cons_succ]
    refine wpAnyH_take (i := 7) (oi := { dst := some 23, op := _, type := _, pos := _, after := _, guard := _ }) (v := undef) rfl (by kernel_rfl) (by kernel_rfl) (by kernel_rfl) (fun _ _ _ h => h) (.inr ⟨by rfl, rfl⟩) (by assumption) ?_
    try simp only [Act.put, List.setIfInBounds_toArray, List.set_cons_zero, List.set_cons_succ]
    refine wpAnyH_take (i := 8) (oi := { dst := some 24, op := _, type := _, pos := _, after := _, guard := _ }) (v := undef) rfl (by kernel_rfl) (by kernel_rfl) (by kernel_rfl) (fun _ _ _ h => h) (.inr ⟨by rfl, rfl⟩) (by assumption) ?_
    try simp only [Act.put, List.setIfInBounds_toArray, List.set_cons_zero, List.set_cons_succ]
    refine wpAnyH_take (i := 9) (oi := { dst := some 25, op := _, type := _, pos := _, after := _, guard := _ }) (v := undef) rfl (by kernel_rfl) (by kernel_rfl) (by kernel_rfl) (fun _ _ _ h => h) (.inr ⟨by rfl, rfl⟩) (by assumption) ?_
    try simp only [Act.put, List.setIfInBounds_toArray, List.set_cons_zero, List.set_cons_succ]
    refine wpAnyH_take (i := 10) (oi := { dst := some 26, op := _, type := _, pos := _, after := _, guard := _ }) (v := ?v2_10) rfl (by kernel_rfl) (by kernel_rfl) (by kernel_rfl) (fun _ _ _ h => h) (.inl ⟨by rfl, ?h2_10⟩) (by assumption) ?_
    case h2_10 => intro w hSw; (try simp only at hSw); go_simp; (try with_reducible rfl)
    try simp only [Act.put, List.setIfInBounds_toArray, List.set_cons_zero, List.set_cons_succ]
    refine wpAnyH_ready (rs := [12]) (by kernel_rfl) (by simp) ?_
    refine AllReadyH.cons (o := { dst := none, op := _, type := _, pos := _, after := _, guard := _ }) rfl (fun K hK => ?_) AllReadyH.nil
    go_simp
    skip
    (try go_wp2_with fail)
    refine hK.out _ _ (st4_other k1 hnb u1' u2' u3' u4') (fun hHeld => ?_)
    clear hK K
    try simp only [Act.put, List.setIfInBounds_toArray, List.set_cons_zero, List.set_cons_succ]
    refine wpAnyH_take (i := 13) (oi := { dst := some 7, op := _, type := _, pos := _, after := _, guard := _ }) (v := ?v4_13) rfl (by kernel_rfl) (by kernel_rfl) (by kernel_rfl) (fun _ _ _ h => h) (.inl ⟨by rfl, ?h4_13⟩) (by assumption) ?_
    case h4_13 => intro w hSw; (try simp only at hSw); go_simp; (try with_reducible rfl)
    try simp only [Act.put, List.setIfInBounds_toArray, List.set_cons_zero, List.set_cons_succ]
    refine wpAnyH_done (by kernel_rfl) ?_ _
    refine NoPanic.normal ?_
    exact HQ.out ⟨w3.heap.size, rfl, rfl, Nat.le_refl _, st4_bo HZ.out _ _ _ _, st4_ch HC2.out (Nat.le_refl _) _ _ _ _⟩
set_option maxRecDepth 100000 in
set_option maxHeartbeats 4000000 in
theorem text5b {w3 : World} {B : Nat} {op d s o i : Int} {u1' u2' u3' u4' : Bool} {e2 : Bool} (hF : Five w3 B ⟨op, d, s, o, i⟩) (h65 : (op == 65) = false) (h67 : (op == 67) = e2) (hU : ∀ w, Calls Tryd.prog 26 #[.int .i64 op] w fun e w' => e = .returned (.agg #[.bool u1', .bool u2', .bool u3', .bool u4']) ∧ Ch [] w w')
    {u0 u2 u3 u4 u5 u6 u7 u8 u9 u10 u11 u12 u13 u14 u15 u16 u17 u18 u19 u20 u21 u22 u23 u24 u25 u26 u27 u28 u29 u30 u31 u32 u33 u34 u35 u36 u37 u38 u39 u40 u41 u42 u43 u44 u45 u46 u47 u48 u49 u50 u51 u52 u53 u54 u55 u56 u57 u58 u59 u60 u61 u62 u63 u64 u65 u66 u67 u68 u69 u70 : Value} {Q : Exit → Act → World → Prop}
    (hQ : ∀ ⦃x6 x7 x16 x17 x18 x19 x20 x21 x22 x23 x24 x25 x26 : Value⦄ ⦃wq : World⦄, (∃ U, x6 = .pointer (some ⟨U, 0, none⟩) ∧ x7 = .bool e2 ∧ w3.heap.size ≤ U ∧ Bo4 wq U u1' u2' u3' u4' ∧ Ch [] w3 wq) → Q .normal { tmps := #[u0, .pointer (some ⟨B, 0, none⟩), u2, u3, u4, u5, x6, x7, u8, u9, u10, u11, u12, u13, u14, u15, x16, x17, x18, x19, x20, x21, x22, x23, x24, x25, x26, u27, u28, u29, u30, u31, u32, u33, u34, u35, u36, u37, u38, u39, u40, u41, u42, u43, u44, u45, u46, u47, u48, u49, u50, u51, u52, u53, u54, u55, u56, u57, u58, u59, u60, u61, u62, u63, u64, u65, u66, u67, u68, u69, u70], defers := [] } wq) :
    Code.wp Tryd.prog (codeOf [1, 1, 1, 1, 0] (Tryd.f16.body.getD .skip)) Q { tmps := #[u0, .pointer (some ⟨B, 0, none⟩), u2, u3, u4, u5, u6, u7, u8, u9, u10, u11, u12, u13, u14, u15, u16, u17, u18, u19, u20, u21, u22, u23, u24, u25, u26, u27, u28, u29, u30, u31, u32, u33, u34, u35, u36, u37, u38, u39, u40, u41, u42, u43, u44, u45, u46, u47, u48, u49, u50, u51, u52, u53, u54, u55, u56, u57, u58, u59, u60, u61, u62, u63, u64, u65, u66, u67, u68, u69, u70], defers := [] } w3 := by
  simp only [codeOf, Tryd.f16, Option.getD_some]
  have h1 := hF.c0
  simp only at h1
  have hlt := hF.lt
  have HF := Lib.hid hF
  have HQ := Lib.hid hQ
  have HU := Lib.hid hU
  have k0 := (hF.ch ((Ch.refl [] w3).alloc (.cells #[.bool false, .bool false, .bool false, .bool false] 57)) (by simp)).c0
  simp only at k0
  have hnb : ¬ w3.heap.size = B := by omega
  clear hF hQ hU hlt
  refine wp_region_noPanic ?_
  refine wp_region_held_drew (S := fun w' => w'.cell? ⟨B, 0, none⟩ = some (.int .i64 op)) (by kernel_rfl) h1 (fun hHeld => ?_)
  refine wpAnyH_take (i := 0) (oi := { dst := some 16, op := _, type := _, pos := _, after := _, guard := _ }) (v := ?v17_0) rfl (by kernel_rfl) (by kernel_rfl) (by kernel_rfl) (fun _ _ _ h => h) (.inl ⟨by rfl, ?h17_0⟩) (by assumption) ?_
  case h17_0 => intro w hSw; (try simp only at hSw); go_simp; (try with_reducible rfl)
  try simp only [Act.put, List.setIfInBounds_toArray, List.set_cons_zero, List.set_cons_succ]
  refine wpAnyH_take (i := 1) (oi := { dst := some 17, op := _, type := _, pos := _, after := _, guard := _ }) (v := ?v18_1) rfl (by kernel_rfl) (by kernel_rfl) (by kernel_rfl) (fun _ _ _ h => h) (.inl ⟨by rfl, ?h18_1⟩) (by assumption) ?_
  case h18_1 => intro w hSw; (try simp only at hSw); go_simp; (try with_reducible rfl)
  try simp only [Act.put, List.setIfInBounds_toArray, List.set_cons_zero, List.set_cons_succ]
  refine wpAnyH_take (i := 3) (oi := { dst := some 19, op := _, type := _, pos := _, after := _, guard := _ }) (v := ?v19_3) rfl (by kernel_rfl) (by kernel_rfl) (by kernel_rfl) (fun _ _ _ h => h) (.inl ⟨by rfl, ?h19_3⟩) (by assumption) ?_
  case h19_3 => intro w hSw; (try simp only at hSw); go_simp; (try with_reducible rfl)
  try simp only [Act.put, List.setIfInBounds_toArray, List.set_cons_zero, List.set_cons_succ]
  refine wpAnyH_take (i := 4) (oi := { dst := some 20, op := _, type := _, pos := _, after := _, guard := _ }) (v := ?v20_4) rfl (by kernel_rfl) (by kernel_rfl) (by kernel_rfl) (fun _ _ _ h => h) (.inl ⟨by rfl, ?h20_4⟩) (by assumption) ?_
  case h20_4 => intro w hSw; (try simp only at hSw); go_simp; (try with_reducible rfl)
  try simp only [Act.put, List.setIfInBounds_toArray, List.set_cons_zero, List.set_cons_succ]
  refine wpAnyH_take (i := 5) (oi := { dst := some 21, op := _, type := _, pos := _, after := _, guard := _ }) (v := ?v21_5) rfl (by kernel_rfl) (by kernel_rfl) (by kernel_rfl) (fun _ _ _ h => h) (.inl ⟨by rfl, ?h21_5⟩) (by assumption) ?_
  case h21_5 => intro w hSw; (try simp only at hSw); go_simp; (try with_reducible rfl)
  try simp only [Act.put, List.setIfInBounds_toArray, List.set_cons_zero, List.set_cons_succ]
  refine wpAnyH_ready (rs := [2, 11]) (by kernel_rfl) (by simp) ?_
  refine AllReadyH.cons (o := { dst := some 18, op := _, type := _, pos := _, after := _, guard := _ }) rfl (fun K hK => ?_) (AllReadyH.cons (o := { dst := some 6, op := _, type := _, pos := _, after := _, guard := _ }) rfl (fun K hK => ?_) AllReadyH.nil)
  · go_simp
    with_reducible refine (HU.out _).mono ?_; rintro e w2 ⟨rfl, hc2⟩; have HC2 := Lib.hid ((Ch.refl [] w3).drew.trans hc2); have k1 := (HF.out.ch HC2.out (by simp)).c0; simp only at k1; have k2 := (HF.out.ch (HC2.out.alloc (.cells #[.bool false, .bool false, .bool false, .bool false] 57)) (by simp)).c0; simp only at k2; have k3 := (HF.out.ch (HC2.out.alloc (.cells #[.bool u1', .bool u2', .bool u3', .bool u4'] 57)) (by simp)).c0; simp only at k3; clear hc2
    (try go_wp2_with fail)
    refine hK.out _ _ k1 (fun hHeld => ?_)
    clear hK K
    try simp only [Act.put, List.setIfInBounds_toArray, List.set_cons_zero, List.set_cons_succ]
    refine wpAnyH_take (i := 6) (oi := { dst := some 22, op := _, type := _, pos := _, after := _, guard := _ }) (v := ?v10_6) rfl (by kernel_rfl) (by kernel_rfl) (by kernel_rfl) (fun _ _ _ h => h) (.inl ⟨by rfl, ?h10_6⟩) (by assumption) ?_
    case h10_6 => intro w hSw; (try simp only at hSw); go_simp; (try with_reducible rfl)
    try simp only [Act.put, List.setIfInBounds_toArray, List.set_cons_zero, List.set_cons_succ]
    refine wpAnyH_take (i := 7) (oi := { dst := some 23, op := _, type := _, pos := _, after := _, guard := _ }) (v := ?v11_7) rfl (by kernel_rfl) (by kernel_rfl) (by kernel_rfl) (fun _ _ _ h => h) (.inl ⟨by rfl, ?h11_7⟩) (by assumption) ?_
    case h11_7 => intro w hSw; (try simp only at hSw); go_simp; (try with_reducible rfl)
    try simp only [Act.put, List.setIfInBounds_toArray, List.set_cons_zero, List.set_cons_succ]
    refine wpAnyH_take (i := 8) (oi := { dst := some 24, op := _, type := _, pos := _, after := _, guard := _ }) (v := ?v12_8) rfl (by kernel_rfl) (by kernel_rfl) (by kernel_rfl) (fun _ _ _ h => h) (.inl ⟨by rfl, ?h12_8⟩) (by assumption) ?_
    case h12_8 => intro w hSw; (try simp only at hSw); go_simp; (try with_reducible rfl)
    try simp only [Act.put, List.setIfInBounds_toArray, List.set_cons_zero, List.set_cons_succ]
    refine wpAnyH_take (i := 9) (oi := { dst := some 25, op := _, type := _, pos := _, after := _, guard := _ }) (v := ?v13_9) rfl (by kernel_rfl) (by kernel_rfl) (by kernel_rfl) (fun _ _ _ h => h) (.inl ⟨by rfl, ?h13_9⟩) (by assumption) ?_
    case h13_9 => intro w hSw; (try simp only at hSw); go_simp; (try with_reducible rfl)
    try simp only [Act.put, List.setIfInBounds_toArray, List.set_cons_zero, List.set_cons_succ]
    refine wpAnyH_take (i := 10) (oi := { dst := some 26, op := _, type := _, pos := _, after := _, guard := _ }) (v := ?v14_10) rfl (by kernel_rfl) (by kernel_rfl) (by kernel_rfl) (fun _ _ _ h => h) (.inl ⟨by rfl, ?h14_10⟩) (by assumption) ?_
    case h14_10 => intro w hSw; (try simp only at hSw); go_simp; (try with_reducible rfl)
    try simp only [Act.put, List.setIfInBounds_toArray, List.set_cons_zero, List.set_cons_succ]
    refine wpAnyH_ready (rs := [11]) (by kernel_rfl) (by simp) ?_
    refine AllReadyH.cons (o := { dst := some 6, op := _, type := _, pos := _, after := _, guard := _ }) rfl (fun K hK => ?_) AllReadyH.nil
    go_simp
    skip
    (try go_wp2_with fail)
    refine hK.out _ _ k2 (fun hHeld => ?_)
    clear hK K
    try simp only [Act.put, List.setIfInBounds_toArray, List.set_cons_zero, List.set_cons_succ]
    refine wpAnyH_ready (rs := [12]) (by kernel_rfl) (by simp) ?_
    refine AllReadyH.cons (o := { dst := none, op := _, type := _, pos := _, after := _, guard := _ }) rfl (fun K hK => ?_) AllReadyH.nil
    go_simp
    skip
    (try go_wp2_with fail)
    refine hK.out _ _ k3 (fun hHeld => ?_)
    clear hK K
    try simp only [Act.put, List.setIfInBounds_toArray, List.set_cons_zero, List.set_cons_succ]
    refine wpAnyH_take (i := 13) (oi := { dst := some 7, op := _, type := _, pos := _, after := _, guard := _ }) (v := ?v15_13) rfl (by kernel_rfl) (by kernel_rfl) (by kernel_rfl) (fun _ _ _ h => h) (.inl ⟨by rfl, ?h15_13⟩) (by assumption) ?_
    case h15_13 => intro w hSw; (try simp only at hSw); go_simp; (try with_reducible rfl)
    try simp only [Act.put, List.setIfInBounds_toArray, List.set_cons_zero, List.set_cons_succ]
    refine wpAnyH_done (by kernel_rfl) ?_ _
    refine NoPanic.normal ?_
    exact HQ.out ⟨w2.heap.size, rfl, rfl, HC2.out.size, Bo4.new w2 u1' u2' u3' u4' 57, HC2.out.alloc _⟩
  · have HA := Lib.hid (((Ch.refl [] w3).alloc (.cells #[.bool false, .bool false, .bool false, .bool false] 57)).drew)
    have HZ0 := Lib.hid (And.intro ((Bo4.new w3 false false false false 57).ch (Ch.refl [] _).drew (by simp)) (fun j => show (w3.alloc (.cells #[.bool false, .bool false, .bool false, .bool false] 57)).drew.frozen? ⟨w3.heap.size, j, none⟩ = false from World.frozen?_alloc_new w3 _ _ _))
    go_simp
    skip
    (try go_wp2_with fail)
    refine hK.out _ _ k0 (fun hHeld => ?_)
    clear hK K
    try simp only [Act.put, List.setIfInBounds_toArray, List.set_cons_zero, List.set_cons_succ]
    refine wpAnyH_ready (rs := [2]) (by kernel_rfl) (by simp) ?_
    refine AllReadyH.cons (o := { dst := some 18, op := _, type := _, pos := _, after := _, guard := _ }) rfl (fun K hK => ?_) AllReadyH.nil
    go_simp
    with_reducible refine (HU.out _).mono ?_; rintro e w2 ⟨rfl, hc2⟩; have HC2 := Lib.hid (HA.out.trans hc2); have k1 := (HF.out.ch HC2.out (by simp)).c0; simp only at k1; have HZ := Lib.hid (HZ0.out.1.ch hc2 (by simp)); have z0 := HZ.out.c0; have z1 := HZ.out.c1; have z2 := HZ.out.c2; have z3 := HZ.out.c3; have z4 : ∀ j, w2.frozen? ⟨w3.heap.size, j, none⟩ = false := fun j => (hc2.frozen (p := ⟨w3.heap.size, j, none⟩) (by simp) (by simp)).trans (HZ0.out.2 j); clear hc2
    (try go_wp2_with fail)
    refine hK.out _ _ k1 (fun hHeld => ?_)
    clear hK K
    try simp only [Act.put, List.setIfInBounds_toArray, List.set_cons_zero, List.set_cons_succ]
    refine wpAnyH_take (i := 6) (oi := { dst := some 22, op := _, type := _, pos := _, after := _, guard := _ }) (v := ?v10_6) rfl (by kernel_rfl) (by kernel_rfl) (by kernel_rfl) (fun _ _ _ h => h) (.inl ⟨by rfl, ?h10_6⟩) (by assumption) ?_
    case h10_6 => intro w hSw; (try simp only at hSw); go_simp; (try with_reducible rfl)
    try simp only [Act.put, List.setIfInBounds_toArray, List.set_cons_zero, List.set_cons_succ]
    refine wpAnyH_take (i := 7) (oi := { dst := some 23, op := _, type := _, pos := _, after := _, guard := _ }) (v := ?v11_7) rfl (by kernel_rfl) (by kernel_rfl) (by kernel_rfl) (fun _ _ _ h => h) (.inl ⟨by rfl, ?h11_7⟩) (by assumption) ?_
    case h11_7 => intro w hSw; (try simp only at hSw); go_simp; (try with_reducible rfl)
    try simp only [Act.put, List.setIfInBounds_toArray, List.set_cons_zero, List.set_cons_succ]
    refine wpAnyH_take (i := 8) (oi := { dst := some 24, op := _, type := _, pos := _, after := _, guard := _ }) (v := ?v12_8) rfl (by kernel_rfl) (by kernel_rfl) (by kernel_rfl) (fun _ _ _ h => h) (.inl ⟨by rfl, ?h12_8⟩) (by assumption) ?_
    case h12_8 => intro w hSw; (try simp only at hSw); go_simp; (try with_reducible rfl)
    try simp only [Act.put, List.setIfInBounds_toArray, List.set_cons_zero, List.set_cons_succ]
    refine wpAnyH_take (i := 9) (oi := { dst := some 25, op := _, type := _, pos := _, after := _, guard := _ }) (v := ?v13_9) rfl (by kernel_rfl) (by kernel_rfl) (by kernel_rfl) (fun _ _ _ h => h) (.inl ⟨by rfl, ?h13_9⟩) (by assumption) ?_
    case h13_9 => intro w hSw; (try simp only at hSw); go_simp; (try with_reducible rfl)
    try simp only [Act.put, List.setIfInBounds_toArray, List.set_cons_zero, List.set_cons_succ]
    refine wpAnyH_take (i := 10) (oi := { dst := some 26, op := _, type := _, pos := _, after := _, guard := _ }) (v := ?v14_10) rfl (by kernel_rfl) (by kernel_rfl) (by kernel_rfl) (fun _ _ _ h => h) (.inl ⟨by rfl, ?h14_10⟩) (by assumption) ?_
    case h14_10 => intro w hSw; (try simp only at hSw); go_simp; (try with_reducible rfl)
    try simp only [Act.put, List.setIfInBounds_toArray, List.set_cons_zero, List.set_cons_succ]
    refine wpAnyH_ready (rs := [12]) (by kernel_rfl) (by simp) ?_
    refine AllReadyH.cons (o := { dst := none, op := _, type := _, pos := _, after := _, guard := _ }) rfl (fun K hK => ?_) AllReadyH.nil
    go_simp
    skip
    (try go_wp2_with fail)
    refine hK.out _ _ (st4_other k1 hnb u1' u2' u3' u4') (fun hHeld => ?_)
    clear hK K
    try simp only [Act.put, List.setIfInBounds_toArray, List.set_cons_zero, List.set_cons_succ]
    refine wpAnyH_take (i := 13) (oi := { dst := some 7, op := _, type := _, pos := _, after := _, guard := _ }) (v := ?v16_13) rfl (by kernel_rfl) (by kernel_rfl) (by kernel_rfl) (fun _ _ _ h => h) (.inl ⟨by rfl, ?h16_13⟩) (by assumption) ?_
    case h16_13 => intro w hSw; (try simp only at hSw); go_simp; (try with_reducible rfl)
    try simp only [Act.put, List.setIfInBounds_toArray, List.set_cons_zero, List.set_cons_succ]
    refine wpAnyH_done (by kernel_rfl) ?_ _
    refine NoPanic.normal ?_
    exact HQ.out ⟨w3.heap.size, rfl, rfl, Nat.le_refl _, st4_bo HZ.out _ _ _ _, st4_ch HC2.out (Nat.le_refl _) _ _ _ _⟩
set_option maxRecDepth 100000 in
set_option maxHeartbeats 4000000 in
theorem text5 {w3 : World} {B : Nat} {op d s o i : Int} {u1' u2' u3' u4' : Bool} {st : Bool} (hF : Five w3 B ⟨op, d, s, o, i⟩) (hst : (op == 65 || op == 67) = st) (hU : ∀ w, Calls Tryd.prog 26 #[.int .i64 op] w fun e w' => e = .returned (.agg #[.bool u1', .bool u2', .bool u3', .bool u4']) ∧ Ch [] w w')
    {u0 u2 u3 u4 u5 u6 u7 u8 u9 u10 u11 u12 u13 u14 u15 u16 u17 u18 u19 u20 u21 u22 u23 u24 u25 u26 u27 u28 u29 u30 u31 u32 u33 u34 u35 u36 u37 u38 u39 u40 u41 u42 u43 u44 u45 u46 u47 u48 u49 u50 u51 u52 u53 u54 u55 u56 u57 u58 u59 u60 u61 u62 u63 u64 u65 u66 u67 u68 u69 u70 : Value} {Q : Exit → Act → World → Prop}
    (hQ : ∀ ⦃x6 x7 x16 x17 x18 x19 x20 x21 x22 x23 x24 x25 x26 : Value⦄ ⦃wq : World⦄, (∃ U, x6 = .pointer (some ⟨U, 0, none⟩) ∧ x7 = .bool st ∧ w3.heap.size ≤ U ∧ Bo4 wq U u1' u2' u3' u4' ∧ Ch [] w3 wq) → Q .normal { tmps := #[u0, .pointer (some ⟨B, 0, none⟩), u2, u3, u4, u5, x6, x7, u8, u9, u10, u11, u12, u13, u14, u15, x16, x17, x18, x19, x20, x21, x22, x23, x24, x25, x26, u27, u28, u29, u30, u31, u32, u33, u34, u35, u36, u37, u38, u39, u40, u41, u42, u43, u44, u45, u46, u47, u48, u49, u50, u51, u52, u53, u54, u55, u56, u57, u58, u59, u60, u61, u62, u63, u64, u65, u66, u67, u68, u69, u70], defers := [] } wq) :
    Code.wp Tryd.prog (codeOf [1, 1, 1, 1, 0] (Tryd.f16.body.getD .skip)) Q { tmps := #[u0, .pointer (some ⟨B, 0, none⟩), u2, u3, u4, u5, u6, u7, u8, u9, u10, u11, u12, u13, u14, u15, u16, u17, u18, u19, u20, u21, u22, u23, u24, u25, u26, u27, u28, u29, u30, u31, u32, u33, u34, u35, u36, u37, u38, u39, u40, u41, u42, u43, u44, u45, u46, u47, u48, u49, u50, u51, u52, u53, u54, u55, u56, u57, u58, u59, u60, u61, u62, u63, u64, u65, u66, u67, u68, u69, u70], defers := [] } w3 := by
  cases h65 : (op == 65)
  · exact text5b hF h65 (by rw [h65, Bool.false_or] at hst; exact hst) hU hQ
  · obtain rfl : st = true := by rw [← hst, h65, Bool.true_or]
    exact text5a hF h65 hU hQ
end Go.Proofs.YtgldkalagmjkfaaDoor

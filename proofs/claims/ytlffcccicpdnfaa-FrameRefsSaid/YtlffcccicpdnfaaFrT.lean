/-
  FrameSets: the regions in which a thing is set: pieces. (Written by gen/setreg18.py.)
-/
import Derived.Test.YtlffcccicpdnfaaFrS
import Derived.Deep.RegionHeld3
import Derived.Deep.CutBlock
namespace Go.Proofs.Ytlffcccicpdnfaa
open Go.RowKit

attribute [local go_sem] Oper.semAt_some

/-- Seven cells: on the stack or not, at what number, a thing. -/
structure A7 (w : World) (b o : Nat) (S : Bool) (t : Int) (x : V5) : Prop where
  c0 : w.cell? ⟨b, o, none⟩ = some (.bool S)
  c1 : w.cell? ⟨b, o + 1, none⟩ = some (.int .i64 t)
  c2 : w.cell? ⟨b, o + 2, none⟩ = some (.bool x.r)
  c3 : w.cell? ⟨b, o + 3, none⟩ = some (.int .i64 x.m)
  c4 : w.cell? ⟨b, o + 4, none⟩ = some (.int .i64 x.s)
  c5 : w.cell? ⟨b, o + 5, none⟩ = some (.int .i64 x.g)
  c6 : w.cell? ⟨b, o + 6, none⟩ = some (.int .u64 (x.n : Int))
theorem A7.lt {w : World} {b o : Nat} {S : Bool} {t : Int} {x : V5} (h : A7 w b o S t x) : b < w.heap.size := cell_lt h.c0
theorem A7.ch {T : List Nat} {w w' : World} {b o : Nat} {S : Bool} {t : Int} {x : V5} (h : A7 w b o S t x) (hc : Ch T w w') (hb : b ∉ T) : A7 w' b o S t x :=
  have c : ∀ i, w'.cell? ⟨b, i, none⟩ = w.cell? ⟨b, i, none⟩ := fun i => World.cell?_of_block (a := ⟨b, i, none⟩) (hc.block b h.lt hb)
  ⟨(c _).trans h.c0, (c _).trans h.c1, (c _).trans h.c2, (c _).trans h.c3, (c _).trans h.c4, (c _).trans h.c5, (c _).trans h.c6⟩
theorem A7.new (w : World) (S : Bool) (t : Int) (x : V5) (ty : TypeId) : A7 (w.alloc (.cells #[.bool S, .int .i64 t, .bool x.r, .int .i64 x.m, .int .i64 x.s, .int .i64 x.g, .int .u64 (x.n : Int)] ty)) w.heap.size 0 S t x :=
  ⟨by rw [World.cell?_alloc_at _ _ _ _ rfl]; rfl, by rw [World.cell?_alloc_at _ _ _ _ rfl]; rfl, by rw [World.cell?_alloc_at _ _ _ _ rfl]; rfl, by rw [World.cell?_alloc_at _ _ _ _ rfl]; rfl, by rw [World.cell?_alloc_at _ _ _ _ rfl]; rfl, by rw [World.cell?_alloc_at _ _ _ _ rfl]; rfl, by rw [World.cell?_alloc_at _ _ _ _ rfl]; rfl⟩
theorem eq_fvn (x y : V5) (w : World) : (binOp .neq 38 (vv x) (vv y)).run Try.prog w = .ok (.bool (!(eqV x y))) w := by
  have h := eq_fv x y w
  unfold vv at h ⊢
  rw [run_eql_struct] at h
  rw [run_neq_struct]
  generalize (Op.equalIn 10000 38 (.agg #[.bool x.r, .int .i64 x.m, .int .i64 x.s, .int .i64 x.g, .int .u64 (x.n : Int)]) (.agg #[.bool y.r, .int .i64 y.m, .int .i64 y.s, .int .i64 y.g, .int .u64 (y.n : Int)])).run Try.prog w = r at *
  cases r with
  | ok b w' =>
    simp only [Result.andThen_ok, Result.ok.injEq, Value.bool.injEq] at h ⊢
    exact ⟨by rw [h.1], h.2⟩
  | halt h' w' => simp [Result.andThen] at h

set_option maxRecDepth 100000 in
set_option maxHeartbeats 4000000 in
theorem setw_in {w3 : World} {b T V k : Nat} {F : FV} {x : V5} {S : Bool} (hF : FR w3 b F) (hk : k < 8) (hT : A7 w3 T 0 S (k : Int) x) (hne : T ≠ b)
    {u0 u1 u2 u4 u5 u6 u11 u12 u13 u14 u15 u16 u17 u18 u19 u20 u21 u22 u23 u24 u25 u26 u27 u28 u29 u30 u31 u32 u33 u34 u35 u36 u37 u38 u39 u40 u41 u42 u43 u44 u45 u46 u47 u48 u49 u50 u51 u52 u53 u54 u55 u56 u57 u58 u59 u60 u61 u62 u63 u64 u65 u66 u67 u68 u69 u70 u71 u72 u73 u74 u75 u76 u77 u78 u79 u80 u81 u82 u83 u84 u85 u86 u87 u88 u89 u90 u91 u92 u93 u94 u95 u96 u97 u98 u99 u100 u101 u102 u103 u104 u105 u106 u107 u108 u109 u110 u111 u112 u113 u114 u115 u116 u117 u118 u119 u120 u121 u122 u123 u124 u125 u126 u127 u128 u129 u130 u131 u132 u133 u134 u135 u136 u137 u138 u139 u140 u141 u142 u143 : Value} {Q : Exit → Act → World → Prop}
    (hQ : ∀ ⦃x51 x52 x53 x54 x55 x56 x57 x58 x59 x60 x61 x62 x63 x64 x65 x66 x67 x68 x69 x70 x71 x72 x73 x74 x75 x76 x77 x78 x79 : Value⦄ ⦃wq : World⦄, x79 = .bool false ∧ FR wq b (upd F (10 + k) x) ∧ Ch [b] w3 wq → Q .normal { tmps := #[u0, u1, u2, .pointer (some ⟨b, 0, none⟩), u4, u5, u6, .pointer (some ⟨T, 0, none⟩), .bool true, .pointer (some ⟨V, 0, none⟩), .int .i64 0, u11, u12, u13, u14, u15, u16, u17, u18, u19, u20, u21, u22, u23, u24, u25, u26, u27, u28, u29, u30, u31, u32, u33, u34, u35, u36, u37, u38, u39, u40, u41, u42, u43, u44, u45, u46, u47, u48, u49, u50, x51, x52, x53, x54, x55, x56, x57, x58, x59, x60, x61, x62, x63, x64, x65, x66, x67, x68, x69, x70, x71, x72, x73, x74, x75, x76, x77, x78, x79, u80, u81, u82, u83, u84, u85, u86, u87, u88, u89, u90, u91, u92, u93, u94, u95, u96, u97, u98, u99, u100, u101, u102, u103, u104, u105, u106, u107, u108, u109, u110, u111, u112, u113, u114, u115, u116, u117, u118, u119, u120, u121, u122, u123, u124, u125, u126, u127, u128, u129, u130, u131, u132, u133, u134, u135, u136, u137, u138, u139, u140, u141, u142, u143], defers := [] } wq) :
    Code.wp Try.prog (codeOf [1, 1, 1, 1, 0, 1, 0, 0, 1, 0, 0, 1, 0, 1, 0, 1, 1, 0, 0] (Try.f3.body.getD .skip)) Q { tmps := #[u0, u1, u2, .pointer (some ⟨b, 0, none⟩), u4, u5, u6, .pointer (some ⟨T, 0, none⟩), .bool true, .pointer (some ⟨V, 0, none⟩), .int .i64 0, u11, u12, u13, u14, u15, u16, u17, u18, u19, u20, u21, u22, u23, u24, u25, u26, u27, u28, u29, u30, u31, u32, u33, u34, u35, u36, u37, u38, u39, u40, u41, u42, u43, u44, u45, u46, u47, u48, u49, u50, u51, u52, u53, u54, u55, u56, u57, u58, u59, u60, u61, u62, u63, u64, u65, u66, u67, u68, u69, u70, u71, u72, u73, u74, u75, u76, u77, u78, u79, u80, u81, u82, u83, u84, u85, u86, u87, u88, u89, u90, u91, u92, u93, u94, u95, u96, u97, u98, u99, u100, u101, u102, u103, u104, u105, u106, u107, u108, u109, u110, u111, u112, u113, u114, u115, u116, u117, u118, u119, u120, u121, u122, u123, u124, u125, u126, u127, u128, u129, u130, u131, u132, u133, u134, u135, u136, u137, u138, u139, u140, u141, u142, u143], defers := [] } w3 := by
  have HQ := Lib.hid hQ
  have HF := Lib.hid hF
  have HT := Lib.hid hT
  have HTo := Lib.hid (fun w => to5_any x w)
  have HSt := Lib.hid (fun W (h : FR W b F) => setword_in h hk x)
  unfold vv at HTo HSt
  have hS0 : (fun w' : World => w'.cell? ⟨T, 1, none⟩ = some (.int .i64 (k : Int)) ∧ w'.cell? ⟨T, 2, none⟩ = some (.bool x.r) ∧ w'.cell? ⟨T, 3, none⟩ = some (.int .i64 x.m) ∧ w'.cell? ⟨T, 4, none⟩ = some (.int .i64 x.s) ∧ w'.cell? ⟨T, 5, none⟩ = some (.int .i64 x.g) ∧ w'.cell? ⟨T, 6, none⟩ = some (.int .u64 (x.n : Int))) w3.drew := ⟨hT.c1, hT.c2, hT.c3, hT.c4, hT.c5, hT.c6⟩
  have HNe := Lib.hid hne
  clear hQ hF hk hT hne
  simp only [codeOf, Try.f3, Option.getD_some]
  refine wp_region_noPanic ?_
  refine wp_region_held_drew (S := fun w' : World => w'.cell? ⟨T, 1, none⟩ = some (.int .i64 (k : Int)) ∧ w'.cell? ⟨T, 2, none⟩ = some (.bool x.r) ∧ w'.cell? ⟨T, 3, none⟩ = some (.int .i64 x.m) ∧ w'.cell? ⟨T, 4, none⟩ = some (.int .i64 x.s) ∧ w'.cell? ⟨T, 5, none⟩ = some (.int .i64 x.g) ∧ w'.cell? ⟨T, 6, none⟩ = some (.int .u64 (x.n : Int))) (by kernel_rfl) hS0 (fun hHeld => ?_)
  clear hS0
  refine wpAnyH_take (i := 0) (oi := { dst := some 51, op := _, type := _, pos := _, after := _, guard := _ }) (v := ?v1_0) rfl (by kernel_rfl) (by kernel_rfl) (by kernel_rfl) (fun _ _ _ h => h) (.inl ⟨by rfl, ?h1_0⟩) (by assumption) ?_
  case h1_0 => intro w hSw; obtain ⟨hs0, hs1, hs2, hs3, hs4, hs5⟩ := hSw; go_simp; (try with_reducible rfl)
  try simp only [Act.put, List.setIfInBounds_toArray, List.set_cons_zero, List.set_cons_succ]
  refine wpAnyH_take (i := 1) (oi := { dst := some 52, op := _, type := _, pos := _, after := _, guard := _ }) (v := ?v2_1) rfl (by kernel_rfl) (by kernel_rfl) (by kernel_rfl) (fun _ _ _ h => h) (.inl ⟨by rfl, ?h2_1⟩) (by assumption) ?_
  case h2_1 => intro w hSw; obtain ⟨hs0, hs1, hs2, hs3, hs4, hs5⟩ := hSw; go_simp; (try with_reducible rfl)
  try simp only [Act.put, List.setIfInBounds_toArray, List.set_cons_zero, List.set_cons_succ]
  refine wpAnyH_take (i := 2) (oi := { dst := some 53, op := _, type := _, pos := _, after := _, guard := _ }) (v := ?v3_2) rfl (by kernel_rfl) (by kernel_rfl) (by kernel_rfl) (fun _ _ _ h => h) (.inl ⟨by rfl, ?h3_2⟩) (by assumption) ?_
  case h3_2 => intro w hSw; obtain ⟨hs0, hs1, hs2, hs3, hs4, hs5⟩ := hSw; go_simp; (try with_reducible rfl)
  try simp only [Act.put, List.setIfInBounds_toArray, List.set_cons_zero, List.set_cons_succ]
  refine wpAnyH_take (i := 3) (oi := { dst := some 54, op := _, type := _, pos := _, after := _, guard := _ }) (v := ?v4_3) rfl (by kernel_rfl) (by kernel_rfl) (by kernel_rfl) (fun _ _ _ h => h) (.inl ⟨by rfl, ?h4_3⟩) (by assumption) ?_
  case h4_3 => intro w hSw; obtain ⟨hs0, hs1, hs2, hs3, hs4, hs5⟩ := hSw; go_simp; (try with_reducible rfl)
  try simp only [Act.put, List.setIfInBounds_toArray, List.set_cons_zero, List.set_cons_succ]
  refine wpAnyH_take (i := 4) (oi := { dst := some 55, op := _, type := _, pos := _, after := _, guard := _ }) (v := ?v5_4) rfl (by kernel_rfl) (by kernel_rfl) (by kernel_rfl) (fun _ _ _ h => h) (.inl ⟨by rfl, ?h5_4⟩) (by assumption) ?_
  case h5_4 => intro w hSw; obtain ⟨hs0, hs1, hs2, hs3, hs4, hs5⟩ := hSw; go_simp; (try with_reducible rfl)
  try simp only [Act.put, List.setIfInBounds_toArray, List.set_cons_zero, List.set_cons_succ]
  refine wpAnyH_take (i := 5) (oi := { dst := some 56, op := _, type := _, pos := _, after := _, guard := _ }) (v := ?v6_5) rfl (by kernel_rfl) (by kernel_rfl) (by kernel_rfl) (fun _ _ _ h => h) (.inl ⟨by rfl, ?h6_5⟩) (by assumption) ?_
  case h6_5 => intro w hSw; obtain ⟨hs0, hs1, hs2, hs3, hs4, hs5⟩ := hSw; go_simp; (try with_reducible rfl)
  try simp only [Act.put, List.setIfInBounds_toArray, List.set_cons_zero, List.set_cons_succ]
  refine wpAnyH_take (i := 6) (oi := { dst := some 57, op := _, type := _, pos := _, after := _, guard := _ }) (v := ?v7_6) rfl (by kernel_rfl) (by kernel_rfl) (by kernel_rfl) (fun _ _ _ h => h) (.inl ⟨by rfl, ?h7_6⟩) (by assumption) ?_
  case h7_6 => intro w hSw; obtain ⟨hs0, hs1, hs2, hs3, hs4, hs5⟩ := hSw; go_simp; (try with_reducible rfl)
  try simp only [Act.put, List.setIfInBounds_toArray, List.set_cons_zero, List.set_cons_succ]
  refine wpAnyH_take (i := 7) (oi := { dst := some 58, op := _, type := _, pos := _, after := _, guard := _ }) (v := ?v8_7) rfl (by kernel_rfl) (by kernel_rfl) (by kernel_rfl) (fun _ _ _ h => h) (.inl ⟨by rfl, ?h8_7⟩) (by assumption) ?_
  case h8_7 => intro w hSw; obtain ⟨hs0, hs1, hs2, hs3, hs4, hs5⟩ := hSw; go_simp; (try with_reducible rfl)
  try simp only [Act.put, List.setIfInBounds_toArray, List.set_cons_zero, List.set_cons_succ]
  refine wpAnyH_take (i := 8) (oi := { dst := some 59, op := _, type := _, pos := _, after := _, guard := _ }) (v := undef) rfl (by kernel_rfl) (by kernel_rfl) (by kernel_rfl) (fun _ _ _ h => h) (.inr ⟨by rfl, rfl⟩) (by assumption) ?_
  try simp only [Act.put, List.setIfInBounds_toArray, List.set_cons_zero, List.set_cons_succ]
  refine wpAnyH_take (i := 9) (oi := { dst := some 60, op := _, type := _, pos := _, after := _, guard := _ }) (v := undef) rfl (by kernel_rfl) (by kernel_rfl) (by kernel_rfl) (fun _ _ _ h => h) (.inr ⟨by rfl, rfl⟩) (by assumption) ?_
  try simp only [Act.put, List.setIfInBounds_toArray, List.set_cons_zero, List.set_cons_succ]
  refine wpAnyH_take (i := 10) (oi := { dst := some 61, op := _, type := _, pos := _, after := _, guard := _ }) (v := undef) rfl (by kernel_rfl) (by kernel_rfl) (by kernel_rfl) (fun _ _ _ h => h) (.inr ⟨by rfl, rfl⟩) (by assumption) ?_
  try simp only [Act.put, List.setIfInBounds_toArray, List.set_cons_zero, List.set_cons_succ]
  refine wpAnyH_take (i := 11) (oi := { dst := some 62, op := _, type := _, pos := _, after := _, guard := _ }) (v := undef) rfl (by kernel_rfl) (by kernel_rfl) (by kernel_rfl) (fun _ _ _ h => h) (.inr ⟨by rfl, rfl⟩) (by assumption) ?_
  try simp only [Act.put, List.setIfInBounds_toArray, List.set_cons_zero, List.set_cons_succ]
  refine wpAnyH_take (i := 12) (oi := { dst := some 63, op := _, type := _, pos := _, after := _, guard := _ }) (v := undef) rfl (by kernel_rfl) (by kernel_rfl) (by kernel_rfl) (fun _ _ _ h => h) (.inr ⟨by rfl, rfl⟩) (by assumption) ?_
  try simp only [Act.put, List.setIfInBounds_toArray, List.set_cons_zero, List.set_cons_succ]
  refine wpAnyH_take (i := 13) (oi := { dst := some 64, op := _, type := _, pos := _, after := _, guard := _ }) (v := undef) rfl (by kernel_rfl) (by kernel_rfl) (by kernel_rfl) (fun _ _ _ h => h) (.inr ⟨by rfl, rfl⟩) (by assumption) ?_
  try simp only [Act.put, List.setIfInBounds_toArray, List.set_cons_zero, List.set_cons_succ]
  refine wpAnyH_take (i := 14) (oi := { dst := some 65, op := _, type := _, pos := _, after := _, guard := _ }) (v := undef) rfl (by kernel_rfl) (by kernel_rfl) (by kernel_rfl) (fun _ _ _ h => h) (.inr ⟨by rfl, rfl⟩) (by assumption) ?_
  try simp only [Act.put, List.setIfInBounds_toArray, List.set_cons_zero, List.set_cons_succ]
  refine wpAnyH_take (i := 15) (oi := { dst := some 66, op := _, type := _, pos := _, after := _, guard := _ }) (v := ?v9_15) rfl (by kernel_rfl) (by kernel_rfl) (by kernel_rfl) (fun _ _ _ h => h) (.inl ⟨by rfl, ?h9_15⟩) (by assumption) ?_
  case h9_15 => intro w hSw; obtain ⟨hs0, hs1, hs2, hs3, hs4, hs5⟩ := hSw; go_simp; (try with_reducible rfl)
  try simp only [Act.put, List.setIfInBounds_toArray, List.set_cons_zero, List.set_cons_succ]
  refine wpAnyH_take (i := 16) (oi := { dst := some 67, op := _, type := _, pos := _, after := _, guard := _ }) (v := ?v10_16) rfl (by kernel_rfl) (by kernel_rfl) (by kernel_rfl) (fun _ _ _ h => h) (.inl ⟨by rfl, ?h10_16⟩) (by assumption) ?_
  case h10_16 => intro w hSw; obtain ⟨hs0, hs1, hs2, hs3, hs4, hs5⟩ := hSw; go_simp; (try with_reducible rfl)
  try simp only [Act.put, List.setIfInBounds_toArray, List.set_cons_zero, List.set_cons_succ]
  refine wpAnyH_take (i := 17) (oi := { dst := some 68, op := _, type := _, pos := _, after := _, guard := _ }) (v := ?v11_17) rfl (by kernel_rfl) (by kernel_rfl) (by kernel_rfl) (fun _ _ _ h => h) (.inl ⟨by rfl, ?h11_17⟩) (by assumption) ?_
  case h11_17 => intro w hSw; obtain ⟨hs0, hs1, hs2, hs3, hs4, hs5⟩ := hSw; go_simp; (try with_reducible rfl)
  try simp only [Act.put, List.setIfInBounds_toArray, List.set_cons_zero, List.set_cons_succ]
  refine wpAnyH_take (i := 18) (oi := { dst := some 69, op := _, type := _, pos := _, after := _, guard := _ }) (v := ?v12_18) rfl (by kernel_rfl) (by kernel_rfl) (by kernel_rfl) (fun _ _ _ h => h) (.inl ⟨by rfl, ?h12_18⟩) (by assumption) ?_
  case h12_18 => intro w hSw; obtain ⟨hs0, hs1, hs2, hs3, hs4, hs5⟩ := hSw; go_simp; (try with_reducible rfl)
  try simp only [Act.put, List.setIfInBounds_toArray, List.set_cons_zero, List.set_cons_succ]
  refine wpAnyH_take (i := 19) (oi := { dst := some 70, op := _, type := _, pos := _, after := _, guard := _ }) (v := ?v13_19) rfl (by kernel_rfl) (by kernel_rfl) (by kernel_rfl) (fun _ _ _ h => h) (.inl ⟨by rfl, ?h13_19⟩) (by assumption) ?_
  case h13_19 => intro w hSw; obtain ⟨hs0, hs1, hs2, hs3, hs4, hs5⟩ := hSw; go_simp; (try with_reducible rfl)
  try simp only [Act.put, List.setIfInBounds_toArray, List.set_cons_zero, List.set_cons_succ]
  refine wpAnyH_take (i := 20) (oi := { dst := some 71, op := _, type := _, pos := _, after := _, guard := _ }) (v := ?v14_20) rfl (by kernel_rfl) (by kernel_rfl) (by kernel_rfl) (fun _ _ _ h => h) (.inl ⟨by rfl, ?h14_20⟩) (by assumption) ?_
  case h14_20 => intro w hSw; obtain ⟨hs0, hs1, hs2, hs3, hs4, hs5⟩ := hSw; go_simp; (try with_reducible rfl)
  try simp only [Act.put, List.setIfInBounds_toArray, List.set_cons_zero, List.set_cons_succ]
  refine wpAnyH_take (i := 21) (oi := { dst := some 72, op := _, type := _, pos := _, after := _, guard := _ }) (v := ?v15_21) rfl (by kernel_rfl) (by kernel_rfl) (by kernel_rfl) (fun _ _ _ h => h) (.inl ⟨by rfl, ?h15_21⟩) (by assumption) ?_
  case h15_21 => intro w hSw; obtain ⟨hs0, hs1, hs2, hs3, hs4, hs5⟩ := hSw; go_simp; (try with_reducible rfl)
  try simp only [Act.put, List.setIfInBounds_toArray, List.set_cons_zero, List.set_cons_succ]
  refine wpAnyH_take (i := 22) (oi := { dst := some 73, op := _, type := _, pos := _, after := _, guard := _ }) (v := ?v16_22) rfl (by kernel_rfl) (by kernel_rfl) (by kernel_rfl) (fun _ _ _ h => h) (.inl ⟨by rfl, ?h16_22⟩) (by assumption) ?_
  case h16_22 => intro w hSw; obtain ⟨hs0, hs1, hs2, hs3, hs4, hs5⟩ := hSw; go_simp; (try with_reducible rfl)
  try simp only [Act.put, List.setIfInBounds_toArray, List.set_cons_zero, List.set_cons_succ]
  refine wpAnyH_take (i := 26) (oi := { dst := some 77, op := _, type := _, pos := _, after := _, guard := _ }) (v := ?v17_26) rfl (by kernel_rfl) (by kernel_rfl) (by kernel_rfl) (fun _ _ _ h => h) (.inl ⟨by rfl, ?h17_26⟩) (by assumption) ?_
  case h17_26 => intro w hSw; obtain ⟨hs0, hs1, hs2, hs3, hs4, hs5⟩ := hSw; go_simp; (try with_reducible rfl)
  try simp only [Act.put, List.setIfInBounds_toArray, List.set_cons_zero, List.set_cons_succ]
  refine wpAnyH_ready (rs := [23]) (by kernel_rfl) (by simp) ?_
  refine AllReadyH.cons (o := { dst := some 74, op := _, type := _, pos := _, after := _, guard := _ }) rfl (fun K hK => ?_) AllReadyH.nil
  go_simp
  with_reducible refine (HTo.out _).mono ?_; rintro e w4 ⟨rfl, hc4⟩; have HC4 := Lib.hid ((Ch.refl [] w3).drew.trans hc4); clear hc4; have p1 := (HT.out.ch HC4.out (by simp)).c1; have p2 := (HT.out.ch HC4.out (by simp)).c2; have p3 := (HT.out.ch HC4.out (by simp)).c3; have p4 := (HT.out.ch HC4.out (by simp)).c4; have p5 := (HT.out.ch HC4.out (by simp)).c5; have p6 := (HT.out.ch HC4.out (by simp)).c6; 
  (try go_wp2_with fail)
  refine hK.out _ _ ⟨p1, p2, p3, p4, p5, p6⟩ (fun hHeld => ?_)
  clear hK K
  try simp only [Act.put, List.setIfInBounds_toArray, List.set_cons_zero, List.set_cons_succ]
  refine wpAnyH_ready (rs := [24]) (by kernel_rfl) (by simp) ?_
  refine AllReadyH.cons (o := { dst := some 75, op := _, type := _, pos := _, after := _, guard := _ }) rfl (fun K hK => ?_) AllReadyH.nil
  go_simp
  clear p1 p2 p3 p4 p5 p6; with_reducible refine (HSt.out w4 (HF.out.quiet HC4.out)).mono ?_; rintro e w5 ⟨rfl, hF5, hc5⟩; have HF5 := Lib.hid hF5; have HC5 := Lib.hid ((HC4.out.mono (T := [b]) (by simp)).trans hc5); clear hc5 hF5; have q1 := (HT.out.ch HC5.out (by have := HNe.out; simp; omega)).c1; have q2 := (HT.out.ch HC5.out (by have := HNe.out; simp; omega)).c2; have q3 := (HT.out.ch HC5.out (by have := HNe.out; simp; omega)).c3; have q4 := (HT.out.ch HC5.out (by have := HNe.out; simp; omega)).c4; have q5 := (HT.out.ch HC5.out (by have := HNe.out; simp; omega)).c5; have q6 := (HT.out.ch HC5.out (by have := HNe.out; simp; omega)).c6; 
  (try go_wp2_with fail)
  refine hK.out _ _ ⟨q1, q2, q3, q4, q5, q6⟩ (fun hHeld => ?_)
  clear hK K
  try simp only [Act.put, List.setIfInBounds_toArray, List.set_cons_zero, List.set_cons_succ]
  refine wpAnyH_take (i := 25) (oi := { dst := some 76, op := _, type := _, pos := _, after := _, guard := _ }) (v := ?v18_25) rfl (by kernel_rfl) (by kernel_rfl) (by kernel_rfl) (fun _ _ _ h => h) (.inl ⟨by rfl, ?h18_25⟩) (by assumption) ?_
  case h18_25 => intro w hSw; obtain ⟨hs0, hs1, hs2, hs3, hs4, hs5⟩ := hSw; go_simp; (try with_reducible rfl)
  try simp only [Act.put, List.setIfInBounds_toArray, List.set_cons_zero, List.set_cons_succ]
  refine wpAnyH_take (i := 27) (oi := { dst := some 78, op := _, type := _, pos := _, after := _, guard := _ }) (v := ?v19_27) rfl (by kernel_rfl) (by kernel_rfl) (by kernel_rfl) (fun _ _ _ h => h) (.inl ⟨by rfl, ?h19_27⟩) (by assumption) ?_
  case h19_27 => intro w hSw; obtain ⟨hs0, hs1, hs2, hs3, hs4, hs5⟩ := hSw; go_simp; (try with_reducible rfl)
  try simp only [Act.put, List.setIfInBounds_toArray, List.set_cons_zero, List.set_cons_succ]
  refine wpAnyH_take (i := 28) (oi := { dst := some 79, op := _, type := _, pos := _, after := _, guard := _ }) (v := ?v20_28) rfl (by kernel_rfl) (by kernel_rfl) (by kernel_rfl) (fun _ _ _ h => h) (.inl ⟨by rfl, ?h20_28⟩) (by assumption) ?_
  case h20_28 => intro w hSw; obtain ⟨hs0, hs1, hs2, hs3, hs4, hs5⟩ := hSw; go_simp; (try with_reducible rfl)
  try simp only [Act.put, List.setIfInBounds_toArray, List.set_cons_zero, List.set_cons_succ]
  refine wpAnyH_done (by kernel_rfl) ?_ _
  refine NoPanic.normal ?_
  exact HQ.out ⟨rfl, HF5.out, HC5.out⟩
set_option maxRecDepth 100000 in
set_option maxHeartbeats 4000000 in
theorem setw_out {w3 : World} {b T V : Nat} {t : Int} {x : V5} {S : Bool} (ht : t < 0 ∨ 8 ≤ t) (hT : A7 w3 T 0 S t x) (hV : B5 w3 V (num 0))
    {u0 u1 u2 u4 u5 u6 u11 u12 u13 u14 u15 u16 u17 u18 u19 u20 u21 u22 u23 u24 u25 u26 u27 u28 u29 u30 u31 u32 u33 u34 u35 u36 u37 u38 u39 u40 u41 u42 u43 u44 u45 u46 u47 u48 u49 u50 u51 u52 u53 u54 u55 u56 u57 u58 u59 u60 u61 u62 u63 u64 u65 u66 u67 u68 u69 u70 u71 u72 u73 u74 u75 u76 u77 u78 u79 u80 u81 u82 u83 u84 u85 u86 u87 u88 u89 u90 u91 u92 u93 u94 u95 u96 u97 u98 u99 u100 u101 u102 u103 u104 u105 u106 u107 u108 u109 u110 u111 u112 u113 u114 u115 u116 u117 u118 u119 u120 u121 u122 u123 u124 u125 u126 u127 u128 u129 u130 u131 u132 u133 u134 u135 u136 u137 u138 u139 u140 u141 u142 u143 : Value} {Q : Exit → Act → World → Prop}
    (hQ : ∀ ⦃x51 x52 x53 x54 x55 x56 x57 x58 x59 x60 x61 x62 x63 x64 x65 x66 x67 x68 x69 x70 x71 x72 x73 x74 x75 x76 x77 x78 x79 : Value⦄ ⦃wq : World⦄, x79 = .bool false ∧ Ch [] w3 wq → Q .normal { tmps := #[u0, u1, u2, .pointer (some ⟨b, 0, none⟩), u4, u5, u6, .pointer (some ⟨T, 0, none⟩), .bool false, .pointer (some ⟨V, 0, none⟩), .int .i64 2, u11, u12, u13, u14, u15, u16, u17, u18, u19, u20, u21, u22, u23, u24, u25, u26, u27, u28, u29, u30, u31, u32, u33, u34, u35, u36, u37, u38, u39, u40, u41, u42, u43, u44, u45, u46, u47, u48, u49, u50, x51, x52, x53, x54, x55, x56, x57, x58, x59, x60, x61, x62, x63, x64, x65, x66, x67, x68, x69, x70, x71, x72, x73, x74, x75, x76, x77, x78, x79, u80, u81, u82, u83, u84, u85, u86, u87, u88, u89, u90, u91, u92, u93, u94, u95, u96, u97, u98, u99, u100, u101, u102, u103, u104, u105, u106, u107, u108, u109, u110, u111, u112, u113, u114, u115, u116, u117, u118, u119, u120, u121, u122, u123, u124, u125, u126, u127, u128, u129, u130, u131, u132, u133, u134, u135, u136, u137, u138, u139, u140, u141, u142, u143], defers := [] } wq) :
    Code.wp Try.prog (codeOf [1, 1, 1, 1, 0, 1, 0, 0, 1, 0, 0, 1, 0, 1, 0, 1, 1, 0, 0] (Try.f3.body.getD .skip)) Q { tmps := #[u0, u1, u2, .pointer (some ⟨b, 0, none⟩), u4, u5, u6, .pointer (some ⟨T, 0, none⟩), .bool false, .pointer (some ⟨V, 0, none⟩), .int .i64 2, u11, u12, u13, u14, u15, u16, u17, u18, u19, u20, u21, u22, u23, u24, u25, u26, u27, u28, u29, u30, u31, u32, u33, u34, u35, u36, u37, u38, u39, u40, u41, u42, u43, u44, u45, u46, u47, u48, u49, u50, u51, u52, u53, u54, u55, u56, u57, u58, u59, u60, u61, u62, u63, u64, u65, u66, u67, u68, u69, u70, u71, u72, u73, u74, u75, u76, u77, u78, u79, u80, u81, u82, u83, u84, u85, u86, u87, u88, u89, u90, u91, u92, u93, u94, u95, u96, u97, u98, u99, u100, u101, u102, u103, u104, u105, u106, u107, u108, u109, u110, u111, u112, u113, u114, u115, u116, u117, u118, u119, u120, u121, u122, u123, u124, u125, u126, u127, u128, u129, u130, u131, u132, u133, u134, u135, u136, u137, u138, u139, u140, u141, u142, u143], defers := [] } w3 := by
  have HQ := Lib.hid hQ
  have HT := Lib.hid hT
  obtain ⟨z, hz⟩ : ∃ z, num 0 = z := ⟨_, rfl⟩
  rw [hz] at hV
  have HV := Lib.hid hV
  have HTo := Lib.hid (fun w => to5_any x w)
  have HN0 := Lib.hid (fun W => show Calls Try.prog 9 #[.int .u64 0] W fun e w' => e = .returned (vv z) ∧ Ch [] W w' from by rw [← hz]; exact num_any 0 W)
  have HSt := Lib.hid (fun W => setword_out (w := W) b ht x)
  have e1 : ∀ w, (binOp .neq 38 (vv z) (vv z)).run Try.prog w = .ok (.bool false) w := fun w => by have := eq_fvn z z w; rw [eqV_self] at this; exact this
  unfold vv at HTo HSt HN0 e1
  have hS0 : (fun w' : World => w'.cell? ⟨T, 1, none⟩ = some (.int .i64 t) ∧ w'.cell? ⟨T, 2, none⟩ = some (.bool x.r) ∧ w'.cell? ⟨T, 3, none⟩ = some (.int .i64 x.m) ∧ w'.cell? ⟨T, 4, none⟩ = some (.int .i64 x.s) ∧ w'.cell? ⟨T, 5, none⟩ = some (.int .i64 x.g) ∧ w'.cell? ⟨T, 6, none⟩ = some (.int .u64 (x.n : Int)) ∧ w'.cell? ⟨V, 0, none⟩ = some (.bool z.r) ∧ w'.cell? ⟨V, 1, none⟩ = some (.int .i64 z.m) ∧ w'.cell? ⟨V, 2, none⟩ = some (.int .i64 z.s) ∧ w'.cell? ⟨V, 3, none⟩ = some (.int .i64 z.g) ∧ w'.cell? ⟨V, 4, none⟩ = some (.int .u64 (z.n : Int))) w3.drew := ⟨hT.c1, hT.c2, hT.c3, hT.c4, hT.c5, hT.c6, hV.a.c0, hV.a.c1, hV.a.c2, hV.a.c3, hV.a.c4⟩
  clear hQ hT hz hV ht
  simp only [codeOf, Try.f3, Option.getD_some]
  refine wp_region_noPanic ?_
  refine wp_region_held_drew (S := fun w' : World => w'.cell? ⟨T, 1, none⟩ = some (.int .i64 t) ∧ w'.cell? ⟨T, 2, none⟩ = some (.bool x.r) ∧ w'.cell? ⟨T, 3, none⟩ = some (.int .i64 x.m) ∧ w'.cell? ⟨T, 4, none⟩ = some (.int .i64 x.s) ∧ w'.cell? ⟨T, 5, none⟩ = some (.int .i64 x.g) ∧ w'.cell? ⟨T, 6, none⟩ = some (.int .u64 (x.n : Int)) ∧ w'.cell? ⟨V, 0, none⟩ = some (.bool z.r) ∧ w'.cell? ⟨V, 1, none⟩ = some (.int .i64 z.m) ∧ w'.cell? ⟨V, 2, none⟩ = some (.int .i64 z.s) ∧ w'.cell? ⟨V, 3, none⟩ = some (.int .i64 z.g) ∧ w'.cell? ⟨V, 4, none⟩ = some (.int .u64 (z.n : Int))) (by kernel_rfl) hS0 (fun hHeld => ?_)
  clear hS0
  refine wpAnyH_take (i := 0) (oi := { dst := some 51, op := _, type := _, pos := _, after := _, guard := _ }) (v := ?v21_0) rfl (by kernel_rfl) (by kernel_rfl) (by kernel_rfl) (fun _ _ _ h => h) (.inl ⟨by rfl, ?h21_0⟩) (by assumption) ?_
  case h21_0 => intro w hSw; obtain ⟨hs0, hs1, hs2, hs3, hs4, hs5, hs6, hs7, hs8, hs9, hs10⟩ := hSw; go_simp; (try with_reducible rfl)
  try simp only [Act.put, List.setIfInBounds_toArray, List.set_cons_zero, List.set_cons_succ]
  refine wpAnyH_take (i := 1) (oi := { dst := some 52, op := _, type := _, pos := _, after := _, guard := _ }) (v := ?v22_1) rfl (by kernel_rfl) (by kernel_rfl) (by kernel_rfl) (fun _ _ _ h => h) (.inl ⟨by rfl, ?h22_1⟩) (by assumption) ?_
  case h22_1 => intro w hSw; obtain ⟨hs0, hs1, hs2, hs3, hs4, hs5, hs6, hs7, hs8, hs9, hs10⟩ := hSw; go_simp; (try with_reducible rfl)
  try simp only [Act.put, List.setIfInBounds_toArray, List.set_cons_zero, List.set_cons_succ]
  refine wpAnyH_take (i := 2) (oi := { dst := some 53, op := _, type := _, pos := _, after := _, guard := _ }) (v := ?v23_2) rfl (by kernel_rfl) (by kernel_rfl) (by kernel_rfl) (fun _ _ _ h => h) (.inl ⟨by rfl, ?h23_2⟩) (by assumption) ?_
  case h23_2 => intro w hSw; obtain ⟨hs0, hs1, hs2, hs3, hs4, hs5, hs6, hs7, hs8, hs9, hs10⟩ := hSw; go_simp; (try with_reducible rfl)
  try simp only [Act.put, List.setIfInBounds_toArray, List.set_cons_zero, List.set_cons_succ]
  refine wpAnyH_take (i := 3) (oi := { dst := some 54, op := _, type := _, pos := _, after := _, guard := _ }) (v := ?v24_3) rfl (by kernel_rfl) (by kernel_rfl) (by kernel_rfl) (fun _ _ _ h => h) (.inl ⟨by rfl, ?h24_3⟩) (by assumption) ?_
  case h24_3 => intro w hSw; obtain ⟨hs0, hs1, hs2, hs3, hs4, hs5, hs6, hs7, hs8, hs9, hs10⟩ := hSw; go_simp; (try with_reducible rfl)
  try simp only [Act.put, List.setIfInBounds_toArray, List.set_cons_zero, List.set_cons_succ]
  refine wpAnyH_take (i := 4) (oi := { dst := some 55, op := _, type := _, pos := _, after := _, guard := _ }) (v := ?v25_4) rfl (by kernel_rfl) (by kernel_rfl) (by kernel_rfl) (fun _ _ _ h => h) (.inl ⟨by rfl, ?h25_4⟩) (by assumption) ?_
  case h25_4 => intro w hSw; obtain ⟨hs0, hs1, hs2, hs3, hs4, hs5, hs6, hs7, hs8, hs9, hs10⟩ := hSw; go_simp; (try with_reducible rfl)
  try simp only [Act.put, List.setIfInBounds_toArray, List.set_cons_zero, List.set_cons_succ]
  refine wpAnyH_take (i := 5) (oi := { dst := some 56, op := _, type := _, pos := _, after := _, guard := _ }) (v := ?v26_5) rfl (by kernel_rfl) (by kernel_rfl) (by kernel_rfl) (fun _ _ _ h => h) (.inl ⟨by rfl, ?h26_5⟩) (by assumption) ?_
  case h26_5 => intro w hSw; obtain ⟨hs0, hs1, hs2, hs3, hs4, hs5, hs6, hs7, hs8, hs9, hs10⟩ := hSw; go_simp; (try with_reducible rfl)
  try simp only [Act.put, List.setIfInBounds_toArray, List.set_cons_zero, List.set_cons_succ]
  refine wpAnyH_take (i := 6) (oi := { dst := some 57, op := _, type := _, pos := _, after := _, guard := _ }) (v := ?v27_6) rfl (by kernel_rfl) (by kernel_rfl) (by kernel_rfl) (fun _ _ _ h => h) (.inl ⟨by rfl, ?h27_6⟩) (by assumption) ?_
  case h27_6 => intro w hSw; obtain ⟨hs0, hs1, hs2, hs3, hs4, hs5, hs6, hs7, hs8, hs9, hs10⟩ := hSw; go_simp; (try with_reducible rfl)
  try simp only [Act.put, List.setIfInBounds_toArray, List.set_cons_zero, List.set_cons_succ]
  refine wpAnyH_take (i := 7) (oi := { dst := some 58, op := _, type := _, pos := _, after := _, guard := _ }) (v := ?v28_7) rfl (by kernel_rfl) (by kernel_rfl) (by kernel_rfl) (fun _ _ _ h => h) (.inl ⟨by rfl, ?h28_7⟩) (by assumption) ?_
  case h28_7 => intro w hSw; obtain ⟨hs0, hs1, hs2, hs3, hs4, hs5, hs6, hs7, hs8, hs9, hs10⟩ := hSw; go_simp; (try with_reducible rfl)
  try simp only [Act.put, List.setIfInBounds_toArray, List.set_cons_zero, List.set_cons_succ]
  refine wpAnyH_take (i := 8) (oi := { dst := some 59, op := _, type := _, pos := _, after := _, guard := _ }) (v := ?v29_8) rfl (by kernel_rfl) (by kernel_rfl) (by kernel_rfl) (fun _ _ _ h => h) (.inl ⟨by rfl, ?h29_8⟩) (by assumption) ?_
  case h29_8 => intro w hSw; obtain ⟨hs0, hs1, hs2, hs3, hs4, hs5, hs6, hs7, hs8, hs9, hs10⟩ := hSw; go_simp; (try with_reducible rfl)
  try simp only [Act.put, List.setIfInBounds_toArray, List.set_cons_zero, List.set_cons_succ]
  refine wpAnyH_take (i := 9) (oi := { dst := some 60, op := _, type := _, pos := _, after := _, guard := _ }) (v := ?v30_9) rfl (by kernel_rfl) (by kernel_rfl) (by kernel_rfl) (fun _ _ _ h => h) (.inl ⟨by rfl, ?h30_9⟩) (by assumption) ?_
  case h30_9 => intro w hSw; obtain ⟨hs0, hs1, hs2, hs3, hs4, hs5, hs6, hs7, hs8, hs9, hs10⟩ := hSw; go_simp; (try with_reducible rfl)
  try simp only [Act.put, List.setIfInBounds_toArray, List.set_cons_zero, List.set_cons_succ]
  refine wpAnyH_take (i := 10) (oi := { dst := some 61, op := _, type := _, pos := _, after := _, guard := _ }) (v := ?v31_10) rfl (by kernel_rfl) (by kernel_rfl) (by kernel_rfl) (fun _ _ _ h => h) (.inl ⟨by rfl, ?h31_10⟩) (by assumption) ?_
  case h31_10 => intro w hSw; obtain ⟨hs0, hs1, hs2, hs3, hs4, hs5, hs6, hs7, hs8, hs9, hs10⟩ := hSw; go_simp; (try with_reducible rfl)
  try simp only [Act.put, List.setIfInBounds_toArray, List.set_cons_zero, List.set_cons_succ]
  refine wpAnyH_take (i := 11) (oi := { dst := some 62, op := _, type := _, pos := _, after := _, guard := _ }) (v := ?v32_11) rfl (by kernel_rfl) (by kernel_rfl) (by kernel_rfl) (fun _ _ _ h => h) (.inl ⟨by rfl, ?h32_11⟩) (by assumption) ?_
  case h32_11 => intro w hSw; obtain ⟨hs0, hs1, hs2, hs3, hs4, hs5, hs6, hs7, hs8, hs9, hs10⟩ := hSw; go_simp; (try with_reducible rfl)
  try simp only [Act.put, List.setIfInBounds_toArray, List.set_cons_zero, List.set_cons_succ]
  refine wpAnyH_ready (rs := [12]) (by kernel_rfl) (by simp) ?_
  refine AllReadyH.cons (o := { dst := some 63, op := _, type := _, pos := _, after := _, guard := _ }) rfl (fun K hK => ?_) AllReadyH.nil
  go_simp
  with_reducible refine (HN0.out _).mono ?_; rintro e w4 ⟨rfl, hc4⟩; have HC4 := Lib.hid ((Ch.refl [] w3).drew.trans hc4); clear hc4; have p1 := (HT.out.ch HC4.out (by simp)).c1; have p2 := (HT.out.ch HC4.out (by simp)).c2; have p3 := (HT.out.ch HC4.out (by simp)).c3; have p4 := (HT.out.ch HC4.out (by simp)).c4; have p5 := (HT.out.ch HC4.out (by simp)).c5; have p6 := (HT.out.ch HC4.out (by simp)).c6; obtain ⟨⟨r0, r1, r2, r3, r4⟩, -⟩ := HV.out.quiet HC4.out; simp only [Nat.zero_add] at r1 r2 r3 r4; 
  (try go_wp2_with fail)
  refine hK.out _ _ ⟨p1, p2, p3, p4, p5, p6, r0, r1, r2, r3, r4⟩ (fun hHeld => ?_)
  clear hK K
  try simp only [Act.put, List.setIfInBounds_toArray, List.set_cons_zero, List.set_cons_succ]
  refine wpAnyH_take (i := 13) (oi := { dst := some 64, op := _, type := _, pos := _, after := _, guard := _ }) (v := ?v33_13) rfl (by kernel_rfl) (by kernel_rfl) (by kernel_rfl) (fun _ _ _ h => h) (.inl ⟨by rfl, ?h33_13⟩) (by assumption) ?_
  case h33_13 => intro w hSw; obtain ⟨hs0, hs1, hs2, hs3, hs4, hs5, hs6, hs7, hs8, hs9, hs10⟩ := hSw; go_simp; (try with_reducible rfl)
  try simp only [Act.put, List.setIfInBounds_toArray, List.set_cons_zero, List.set_cons_succ]
  refine wpAnyH_take (i := 14) (oi := { dst := some 65, op := _, type := _, pos := _, after := _, guard := _ }) (v := ?v34_14) rfl (by kernel_rfl) (by kernel_rfl) (by kernel_rfl) (fun _ _ _ h => h) (.inl ⟨by rfl, ?h34_14⟩) (by assumption) ?_
  case h34_14 => intro w hSw; obtain ⟨hs0, hs1, hs2, hs3, hs4, hs5, hs6, hs7, hs8, hs9, hs10⟩ := hSw; go_simp; (try with_reducible rfl)
  try simp only [Act.put, List.setIfInBounds_toArray, List.set_cons_zero, List.set_cons_succ]
  refine wpAnyH_take (i := 15) (oi := { dst := some 66, op := _, type := _, pos := _, after := _, guard := _ }) (v := ?v35_15) rfl (by kernel_rfl) (by kernel_rfl) (by kernel_rfl) (fun _ _ _ h => h) (.inl ⟨by rfl, ?h35_15⟩) (by assumption) ?_
  case h35_15 => intro w hSw; obtain ⟨hs0, hs1, hs2, hs3, hs4, hs5, hs6, hs7, hs8, hs9, hs10⟩ := hSw; go_simp; (try with_reducible rfl)
  try simp only [Act.put, List.setIfInBounds_toArray, List.set_cons_zero, List.set_cons_succ]
  refine wpAnyH_take (i := 16) (oi := { dst := some 67, op := _, type := _, pos := _, after := _, guard := _ }) (v := ?v36_16) rfl (by kernel_rfl) (by kernel_rfl) (by kernel_rfl) (fun _ _ _ h => h) (.inl ⟨by rfl, ?h36_16⟩) (by assumption) ?_
  case h36_16 => intro w hSw; obtain ⟨hs0, hs1, hs2, hs3, hs4, hs5, hs6, hs7, hs8, hs9, hs10⟩ := hSw; go_simp; (try with_reducible rfl)
  try simp only [Act.put, List.setIfInBounds_toArray, List.set_cons_zero, List.set_cons_succ]
  refine wpAnyH_take (i := 17) (oi := { dst := some 68, op := _, type := _, pos := _, after := _, guard := _ }) (v := ?v37_17) rfl (by kernel_rfl) (by kernel_rfl) (by kernel_rfl) (fun _ _ _ h => h) (.inl ⟨by rfl, ?h37_17⟩) (by assumption) ?_
  case h37_17 => intro w hSw; obtain ⟨hs0, hs1, hs2, hs3, hs4, hs5, hs6, hs7, hs8, hs9, hs10⟩ := hSw; go_simp; (try with_reducible rfl)
  try simp only [Act.put, List.setIfInBounds_toArray, List.set_cons_zero, List.set_cons_succ]
  refine wpAnyH_take (i := 18) (oi := { dst := some 69, op := _, type := _, pos := _, after := _, guard := _ }) (v := ?v38_18) rfl (by kernel_rfl) (by kernel_rfl) (by kernel_rfl) (fun _ _ _ h => h) (.inl ⟨by rfl, ?h38_18⟩) (by assumption) ?_
  case h38_18 => intro w hSw; obtain ⟨hs0, hs1, hs2, hs3, hs4, hs5, hs6, hs7, hs8, hs9, hs10⟩ := hSw; go_simp; (try with_reducible rfl)
  try simp only [Act.put, List.setIfInBounds_toArray, List.set_cons_zero, List.set_cons_succ]
  refine wpAnyH_take (i := 19) (oi := { dst := some 70, op := _, type := _, pos := _, after := _, guard := _ }) (v := ?v39_19) rfl (by kernel_rfl) (by kernel_rfl) (by kernel_rfl) (fun _ _ _ h => h) (.inl ⟨by rfl, ?h39_19⟩) (by assumption) ?_
  case h39_19 => intro w hSw; obtain ⟨hs0, hs1, hs2, hs3, hs4, hs5, hs6, hs7, hs8, hs9, hs10⟩ := hSw; go_simp; (try with_reducible rfl)
  try simp only [Act.put, List.setIfInBounds_toArray, List.set_cons_zero, List.set_cons_succ]
  refine wpAnyH_take (i := 20) (oi := { dst := some 71, op := _, type := _, pos := _, after := _, guard := _ }) (v := ?v40_20) rfl (by kernel_rfl) (by kernel_rfl) (by kernel_rfl) (fun _ _ _ h => h) (.inl ⟨by rfl, ?h40_20⟩) (by assumption) ?_
  case h40_20 => intro w hSw; obtain ⟨hs0, hs1, hs2, hs3, hs4, hs5, hs6, hs7, hs8, hs9, hs10⟩ := hSw; go_simp; (try with_reducible rfl)
  try simp only [Act.put, List.setIfInBounds_toArray, List.set_cons_zero, List.set_cons_succ]
  refine wpAnyH_take (i := 21) (oi := { dst := some 72, op := _, type := _, pos := _, after := _, guard := _ }) (v := ?v41_21) rfl (by kernel_rfl) (by kernel_rfl) (by kernel_rfl) (fun _ _ _ h => h) (.inl ⟨by rfl, ?h41_21⟩) (by assumption) ?_
  case h41_21 => intro w hSw; obtain ⟨hs0, hs1, hs2, hs3, hs4, hs5, hs6, hs7, hs8, hs9, hs10⟩ := hSw; go_simp; (try with_reducible rfl)
  try simp only [Act.put, List.setIfInBounds_toArray, List.set_cons_zero, List.set_cons_succ]
  refine wpAnyH_take (i := 22) (oi := { dst := some 73, op := _, type := _, pos := _, after := _, guard := _ }) (v := ?v42_22) rfl (by kernel_rfl) (by kernel_rfl) (by kernel_rfl) (fun _ _ _ h => h) (.inl ⟨by rfl, ?h42_22⟩) (by assumption) ?_
  case h42_22 => intro w hSw; obtain ⟨hs0, hs1, hs2, hs3, hs4, hs5, hs6, hs7, hs8, hs9, hs10⟩ := hSw; go_simp; (try with_reducible rfl)
  try simp only [Act.put, List.setIfInBounds_toArray, List.set_cons_zero, List.set_cons_succ]
  refine wpAnyH_take (i := 26) (oi := { dst := some 77, op := _, type := _, pos := _, after := _, guard := _ }) (v := ?v43_26) rfl (by kernel_rfl) (by kernel_rfl) (by kernel_rfl) (fun _ _ _ h => h) (.inl ⟨by rfl, ?h43_26⟩) (by assumption) ?_
  case h43_26 => intro w hSw; obtain ⟨hs0, hs1, hs2, hs3, hs4, hs5, hs6, hs7, hs8, hs9, hs10⟩ := hSw; go_simp; (try with_reducible rfl)
  try simp only [Act.put, List.setIfInBounds_toArray, List.set_cons_zero, List.set_cons_succ]
  refine wpAnyH_ready (rs := [23]) (by kernel_rfl) (by simp) ?_
  refine AllReadyH.cons (o := { dst := some 74, op := _, type := _, pos := _, after := _, guard := _ }) rfl (fun K hK => ?_) AllReadyH.nil
  go_simp
  clear p1 p2 p3 p4 p5 p6 r0 r1 r2 r3 r4; with_reducible refine (HTo.out _).mono ?_; rintro e w5 ⟨rfl, hc5⟩; have HC5 := Lib.hid (HC4.out.trans hc5); clear hc5; have q1 := (HT.out.ch HC5.out (by simp)).c1; have q2 := (HT.out.ch HC5.out (by simp)).c2; have q3 := (HT.out.ch HC5.out (by simp)).c3; have q4 := (HT.out.ch HC5.out (by simp)).c4; have q5 := (HT.out.ch HC5.out (by simp)).c5; have q6 := (HT.out.ch HC5.out (by simp)).c6; obtain ⟨⟨s0, s1, s2, s3, s4⟩, -⟩ := HV.out.quiet HC5.out; simp only [Nat.zero_add] at s1 s2 s3 s4; 
  (try go_wp2_with fail)
  refine hK.out _ _ ⟨q1, q2, q3, q4, q5, q6, s0, s1, s2, s3, s4⟩ (fun hHeld => ?_)
  clear hK K
  try simp only [Act.put, List.setIfInBounds_toArray, List.set_cons_zero, List.set_cons_succ]
  refine wpAnyH_ready (rs := [24]) (by kernel_rfl) (by simp) ?_
  refine AllReadyH.cons (o := { dst := some 75, op := _, type := _, pos := _, after := _, guard := _ }) rfl (fun K hK => ?_) AllReadyH.nil
  go_simp
  clear q1 q2 q3 q4 q5 q6 s0 s1 s2 s3 s4; with_reducible refine (HSt.out _).mono ?_; rintro e w6 ⟨rfl, hc6⟩; have HC6 := Lib.hid (HC5.out.trans hc6); clear hc6; have t1 := (HT.out.ch HC6.out (by simp)).c1; have t2 := (HT.out.ch HC6.out (by simp)).c2; have t3 := (HT.out.ch HC6.out (by simp)).c3; have t4 := (HT.out.ch HC6.out (by simp)).c4; have t5 := (HT.out.ch HC6.out (by simp)).c5; have t6 := (HT.out.ch HC6.out (by simp)).c6; obtain ⟨⟨y0, y1, y2, y3, y4⟩, -⟩ := HV.out.quiet HC6.out; simp only [Nat.zero_add] at y1 y2 y3 y4; 
  (try go_wp2_with fail)
  refine hK.out _ _ ⟨t1, t2, t3, t4, t5, t6, y0, y1, y2, y3, y4⟩ (fun hHeld => ?_)
  clear hK K
  try simp only [Act.put, List.setIfInBounds_toArray, List.set_cons_zero, List.set_cons_succ]
  refine wpAnyH_take (i := 25) (oi := { dst := some 76, op := _, type := _, pos := _, after := _, guard := _ }) (v := ?v44_25) rfl (by kernel_rfl) (by kernel_rfl) (by kernel_rfl) (fun _ _ _ h => h) (.inl ⟨by rfl, ?h44_25⟩) (by assumption) ?_
  case h44_25 => intro w hSw; obtain ⟨hs0, hs1, hs2, hs3, hs4, hs5, hs6, hs7, hs8, hs9, hs10⟩ := hSw; go_simp; (try with_reducible rfl)
  try simp only [Act.put, List.setIfInBounds_toArray, List.set_cons_zero, List.set_cons_succ]
  refine wpAnyH_take (i := 27) (oi := { dst := some 78, op := _, type := _, pos := _, after := _, guard := _ }) (v := ?v45_27) rfl (by kernel_rfl) (by kernel_rfl) (by kernel_rfl) (fun _ _ _ h => h) (.inl ⟨by rfl, ?h45_27⟩) (by assumption) ?_
  case h45_27 => intro w hSw; obtain ⟨hs0, hs1, hs2, hs3, hs4, hs5, hs6, hs7, hs8, hs9, hs10⟩ := hSw; go_simp; (try with_reducible rfl)
  try simp only [Act.put, List.setIfInBounds_toArray, List.set_cons_zero, List.set_cons_succ]
  refine wpAnyH_take (i := 28) (oi := { dst := some 79, op := _, type := _, pos := _, after := _, guard := _ }) (v := ?v46_28) rfl (by kernel_rfl) (by kernel_rfl) (by kernel_rfl) (fun _ _ _ h => h) (.inl ⟨by rfl, ?h46_28⟩) (by assumption) ?_
  case h46_28 => intro w hSw; obtain ⟨hs0, hs1, hs2, hs3, hs4, hs5, hs6, hs7, hs8, hs9, hs10⟩ := hSw; go_simp; (try with_reducible rfl)
  try simp only [Act.put, List.setIfInBounds_toArray, List.set_cons_zero, List.set_cons_succ]
  refine wpAnyH_done (by kernel_rfl) ?_ _
  refine NoPanic.normal ?_
  exact HQ.out ⟨rfl, HC6.out⟩
set_option maxRecDepth 100000 in
set_option maxHeartbeats 4000000 in
theorem setr_in {w3 : World} {b T V k : Nat} {F : FV} {x : V5} {S : Bool} (hF : FR w3 b F) (hk : k < 10) (hT : A7 w3 T 0 S (k : Int) x) (hne : T ≠ b)
    {u0 u1 u2 u4 u5 u6 u8 u9 u10 u14 u15 u16 u17 u18 u19 u20 u21 u22 u23 u24 u25 u26 u27 u28 u29 u30 u31 u32 u33 u34 u35 u36 u37 u38 u39 u40 u41 u42 u43 u44 u45 u46 u47 u48 u49 u50 u51 u52 u53 u54 u55 u56 u57 u58 u59 u60 u61 u62 u63 u64 u65 u66 u67 u68 u69 u70 u71 u72 u73 u74 u75 u76 u77 u78 u79 u80 u81 u82 u83 u84 u85 u86 u87 u88 u89 u90 u91 u92 u93 u94 u95 u96 u97 u98 u99 u100 u101 u102 u103 u104 u105 u106 u107 u108 u109 u110 u111 u112 u113 u114 u115 u116 u117 u118 u119 u120 u121 u122 u123 u124 u125 u126 u127 u128 u129 u130 u131 u132 u133 u134 u135 u136 u137 u138 u139 u140 u141 u142 u143 : Value} {Q : Exit → Act → World → Prop}
    (hQ : ∀ ⦃x103 x104 x105 x106 x107 x108 x109 x110 x111 x112 x113 x114 x115 x116 x117 x118 x119 x120 x121 x122 x123 x124 x125 x126 x127 x128 x129 x130 x131 : Value⦄ ⦃wq : World⦄, x131 = .bool false ∧ FR wq b (upd F k x) ∧ Ch [b] w3 wq → Q .normal { tmps := #[u0, u1, u2, .pointer (some ⟨b, 0, none⟩), u4, u5, u6, .pointer (some ⟨T, 0, none⟩), u8, u9, u10, .bool true, .pointer (some ⟨V, 0, none⟩), .int .i64 0, u14, u15, u16, u17, u18, u19, u20, u21, u22, u23, u24, u25, u26, u27, u28, u29, u30, u31, u32, u33, u34, u35, u36, u37, u38, u39, u40, u41, u42, u43, u44, u45, u46, u47, u48, u49, u50, u51, u52, u53, u54, u55, u56, u57, u58, u59, u60, u61, u62, u63, u64, u65, u66, u67, u68, u69, u70, u71, u72, u73, u74, u75, u76, u77, u78, u79, u80, u81, u82, u83, u84, u85, u86, u87, u88, u89, u90, u91, u92, u93, u94, u95, u96, u97, u98, u99, u100, u101, u102, x103, x104, x105, x106, x107, x108, x109, x110, x111, x112, x113, x114, x115, x116, x117, x118, x119, x120, x121, x122, x123, x124, x125, x126, x127, x128, x129, x130, x131, u132, u133, u134, u135, u136, u137, u138, u139, u140, u141, u142, u143], defers := [] } wq) :
    Code.wp Try.prog (codeOf [1, 1, 1, 1, 0, 1, 0, 0, 1, 0, 0, 1, 0, 1, 1, 1, 1, 0, 0] (Try.f3.body.getD .skip)) Q { tmps := #[u0, u1, u2, .pointer (some ⟨b, 0, none⟩), u4, u5, u6, .pointer (some ⟨T, 0, none⟩), u8, u9, u10, .bool true, .pointer (some ⟨V, 0, none⟩), .int .i64 0, u14, u15, u16, u17, u18, u19, u20, u21, u22, u23, u24, u25, u26, u27, u28, u29, u30, u31, u32, u33, u34, u35, u36, u37, u38, u39, u40, u41, u42, u43, u44, u45, u46, u47, u48, u49, u50, u51, u52, u53, u54, u55, u56, u57, u58, u59, u60, u61, u62, u63, u64, u65, u66, u67, u68, u69, u70, u71, u72, u73, u74, u75, u76, u77, u78, u79, u80, u81, u82, u83, u84, u85, u86, u87, u88, u89, u90, u91, u92, u93, u94, u95, u96, u97, u98, u99, u100, u101, u102, u103, u104, u105, u106, u107, u108, u109, u110, u111, u112, u113, u114, u115, u116, u117, u118, u119, u120, u121, u122, u123, u124, u125, u126, u127, u128, u129, u130, u131, u132, u133, u134, u135, u136, u137, u138, u139, u140, u141, u142, u143], defers := [] } w3 := by
  have HQ := Lib.hid hQ
  have HF := Lib.hid hF
  have HT := Lib.hid hT
  have HTo := Lib.hid (fun w => to5_any x w)
  have HSt := Lib.hid (fun W (h : FR W b F) => setreg_in h hk x)
  unfold vv at HTo HSt
  have hS0 : (fun w' : World => w'.cell? ⟨T, 1, none⟩ = some (.int .i64 (k : Int)) ∧ w'.cell? ⟨T, 2, none⟩ = some (.bool x.r) ∧ w'.cell? ⟨T, 3, none⟩ = some (.int .i64 x.m) ∧ w'.cell? ⟨T, 4, none⟩ = some (.int .i64 x.s) ∧ w'.cell? ⟨T, 5, none⟩ = some (.int .i64 x.g) ∧ w'.cell? ⟨T, 6, none⟩ = some (.int .u64 (x.n : Int))) w3.drew := ⟨hT.c1, hT.c2, hT.c3, hT.c4, hT.c5, hT.c6⟩
  have HNe := Lib.hid hne
  clear hQ hF hk hT hne
  simp only [codeOf, Try.f3, Option.getD_some]
  refine wp_region_noPanic ?_
  refine wp_region_held_drew (S := fun w' : World => w'.cell? ⟨T, 1, none⟩ = some (.int .i64 (k : Int)) ∧ w'.cell? ⟨T, 2, none⟩ = some (.bool x.r) ∧ w'.cell? ⟨T, 3, none⟩ = some (.int .i64 x.m) ∧ w'.cell? ⟨T, 4, none⟩ = some (.int .i64 x.s) ∧ w'.cell? ⟨T, 5, none⟩ = some (.int .i64 x.g) ∧ w'.cell? ⟨T, 6, none⟩ = some (.int .u64 (x.n : Int))) (by kernel_rfl) hS0 (fun hHeld => ?_)
  clear hS0
  refine wpAnyH_take (i := 0) (oi := { dst := some 103, op := _, type := _, pos := _, after := _, guard := _ }) (v := ?v47_0) rfl (by kernel_rfl) (by kernel_rfl) (by kernel_rfl) (fun _ _ _ h => h) (.inl ⟨by rfl, ?h47_0⟩) (by assumption) ?_
  case h47_0 => intro w hSw; obtain ⟨hs0, hs1, hs2, hs3, hs4, hs5⟩ := hSw; go_simp; (try with_reducible rfl)
  try simp only [Act.put, List.setIfInBounds_toArray, List.set_cons_zero, List.set_cons_succ]
  refine wpAnyH_take (i := 1) (oi := { dst := some 104, op := _, type := _, pos := _, after := _, guard := _ }) (v := ?v48_1) rfl (by kernel_rfl) (by kernel_rfl) (by kernel_rfl) (fun _ _ _ h => h) (.inl ⟨by rfl, ?h48_1⟩) (by assumption) ?_
  case h48_1 => intro w hSw; obtain ⟨hs0, hs1, hs2, hs3, hs4, hs5⟩ := hSw; go_simp; (try with_reducible rfl)
  try simp only [Act.put, List.setIfInBounds_toArray, List.set_cons_zero, List.set_cons_succ]
  refine wpAnyH_take (i := 2) (oi := { dst := some 105, op := _, type := _, pos := _, after := _, guard := _ }) (v := ?v49_2) rfl (by kernel_rfl) (by kernel_rfl) (by kernel_rfl) (fun _ _ _ h => h) (.inl ⟨by rfl, ?h49_2⟩) (by assumption) ?_
  case h49_2 => intro w hSw; obtain ⟨hs0, hs1, hs2, hs3, hs4, hs5⟩ := hSw; go_simp; (try with_reducible rfl)
  try simp only [Act.put, List.setIfInBounds_toArray, List.set_cons_zero, List.set_cons_succ]
  refine wpAnyH_take (i := 3) (oi := { dst := some 106, op := _, type := _, pos := _, after := _, guard := _ }) (v := ?v50_3) rfl (by kernel_rfl) (by kernel_rfl) (by kernel_rfl) (fun _ _ _ h => h) (.inl ⟨by rfl, ?h50_3⟩) (by assumption) ?_
  case h50_3 => intro w hSw; obtain ⟨hs0, hs1, hs2, hs3, hs4, hs5⟩ := hSw; go_simp; (try with_reducible rfl)
  try simp only [Act.put, List.setIfInBounds_toArray, List.set_cons_zero, List.set_cons_succ]
  refine wpAnyH_take (i := 4) (oi := { dst := some 107, op := _, type := _, pos := _, after := _, guard := _ }) (v := ?v51_4) rfl (by kernel_rfl) (by kernel_rfl) (by kernel_rfl) (fun _ _ _ h => h) (.inl ⟨by rfl, ?h51_4⟩) (by assumption) ?_
  case h51_4 => intro w hSw; obtain ⟨hs0, hs1, hs2, hs3, hs4, hs5⟩ := hSw; go_simp; (try with_reducible rfl)
  try simp only [Act.put, List.setIfInBounds_toArray, List.set_cons_zero, List.set_cons_succ]
  refine wpAnyH_take (i := 5) (oi := { dst := some 108, op := _, type := _, pos := _, after := _, guard := _ }) (v := ?v52_5) rfl (by kernel_rfl) (by kernel_rfl) (by kernel_rfl) (fun _ _ _ h => h) (.inl ⟨by rfl, ?h52_5⟩) (by assumption) ?_
  case h52_5 => intro w hSw; obtain ⟨hs0, hs1, hs2, hs3, hs4, hs5⟩ := hSw; go_simp; (try with_reducible rfl)
  try simp only [Act.put, List.setIfInBounds_toArray, List.set_cons_zero, List.set_cons_succ]
  refine wpAnyH_take (i := 6) (oi := { dst := some 109, op := _, type := _, pos := _, after := _, guard := _ }) (v := ?v53_6) rfl (by kernel_rfl) (by kernel_rfl) (by kernel_rfl) (fun _ _ _ h => h) (.inl ⟨by rfl, ?h53_6⟩) (by assumption) ?_
  case h53_6 => intro w hSw; obtain ⟨hs0, hs1, hs2, hs3, hs4, hs5⟩ := hSw; go_simp; (try with_reducible rfl)
  try simp only [Act.put, List.setIfInBounds_toArray, List.set_cons_zero, List.set_cons_succ]
  refine wpAnyH_take (i := 7) (oi := { dst := some 110, op := _, type := _, pos := _, after := _, guard := _ }) (v := ?v54_7) rfl (by kernel_rfl) (by kernel_rfl) (by kernel_rfl) (fun _ _ _ h => h) (.inl ⟨by rfl, ?h54_7⟩) (by assumption) ?_
  case h54_7 => intro w hSw; obtain ⟨hs0, hs1, hs2, hs3, hs4, hs5⟩ := hSw; go_simp; (try with_reducible rfl)
  try simp only [Act.put, List.setIfInBounds_toArray, List.set_cons_zero, List.set_cons_succ]
  refine wpAnyH_take (i := 8) (oi := { dst := some 111, op := _, type := _, pos := _, after := _, guard := _ }) (v := undef) rfl (by kernel_rfl) (by kernel_rfl) (by kernel_rfl) (fun _ _ _ h => h) (.inr ⟨by rfl, rfl⟩) (by assumption) ?_
  try simp only [Act.put, List.setIfInBounds_toArray, List.set_cons_zero, List.set_cons_succ]
  refine wpAnyH_take (i := 9) (oi := { dst := some 112, op := _, type := _, pos := _, after := _, guard := _ }) (v := undef) rfl (by kernel_rfl) (by kernel_rfl) (by kernel_rfl) (fun _ _ _ h => h) (.inr ⟨by rfl, rfl⟩) (by assumption) ?_
  try simp only [Act.put, List.setIfInBounds_toArray, List.set_cons_zero, List.set_cons_succ]
  refine wpAnyH_take (i := 10) (oi := { dst := some 113, op := _, type := _, pos := _, after := _, guard := _ }) (v := undef) rfl (by kernel_rfl) (by kernel_rfl) (by kernel_rfl) (fun _ _ _ h => h) (.inr ⟨by rfl, rfl⟩) (by assumption) ?_
  try simp only [Act.put, List.setIfInBounds_toArray, List.set_cons_zero, List.set_cons_succ]
  refine wpAnyH_take (i := 11) (oi := { dst := some 114, op := _, type := _, pos := _, after := _, guard := _ }) (v := undef) rfl (by kernel_rfl) (by kernel_rfl) (by kernel_rfl) (fun _ _ _ h => h) (.inr ⟨by rfl, rfl⟩) (by assumption) ?_
  try simp only [Act.put, List.setIfInBounds_toArray, List.set_cons_zero, List.set_cons_succ]
  refine wpAnyH_take (i := 12) (oi := { dst := some 115, op := _, type := _, pos := _, after := _, guard := _ }) (v := undef) rfl (by kernel_rfl) (by kernel_rfl) (by kernel_rfl) (fun _ _ _ h => h) (.inr ⟨by rfl, rfl⟩) (by assumption) ?_
  try simp only [Act.put, List.setIfInBounds_toArray, List.set_cons_zero, List.set_cons_succ]
  refine wpAnyH_take (i := 13) (oi := { dst := some 116, op := _, type := _, pos := _, after := _, guard := _ }) (v := undef) rfl (by kernel_rfl) (by kernel_rfl) (by kernel_rfl) (fun _ _ _ h => h) (.inr ⟨by rfl, rfl⟩) (by assumption) ?_
  try simp only [Act.put, List.setIfInBounds_toArray, List.set_cons_zero, List.set_cons_succ]
  refine wpAnyH_take (i := 14) (oi := { dst := some 117, op := _, type := _, pos := _, after := _, guard := _ }) (v := undef) rfl (by kernel_rfl) (by kernel_rfl) (by kernel_rfl) (fun _ _ _ h => h) (.inr ⟨by rfl, rfl⟩) (by assumption) ?_
  try simp only [Act.put, List.setIfInBounds_toArray, List.set_cons_zero, List.set_cons_succ]
  refine wpAnyH_take (i := 15) (oi := { dst := some 118, op := _, type := _, pos := _, after := _, guard := _ }) (v := ?v55_15) rfl (by kernel_rfl) (by kernel_rfl) (by kernel_rfl) (fun _ _ _ h => h) (.inl ⟨by rfl, ?h55_15⟩) (by assumption) ?_
  case h55_15 => intro w hSw; obtain ⟨hs0, hs1, hs2, hs3, hs4, hs5⟩ := hSw; go_simp; (try with_reducible rfl)
  try simp only [Act.put, List.setIfInBounds_toArray, List.set_cons_zero, List.set_cons_succ]
  refine wpAnyH_take (i := 16) (oi := { dst := some 119, op := _, type := _, pos := _, after := _, guard := _ }) (v := ?v56_16) rfl (by kernel_rfl) (by kernel_rfl) (by kernel_rfl) (fun _ _ _ h => h) (.inl ⟨by rfl, ?h56_16⟩) (by assumption) ?_
  case h56_16 => intro w hSw; obtain ⟨hs0, hs1, hs2, hs3, hs4, hs5⟩ := hSw; go_simp; (try with_reducible rfl)
  try simp only [Act.put, List.setIfInBounds_toArray, List.set_cons_zero, List.set_cons_succ]
  refine wpAnyH_take (i := 17) (oi := { dst := some 120, op := _, type := _, pos := _, after := _, guard := _ }) (v := ?v57_17) rfl (by kernel_rfl) (by kernel_rfl) (by kernel_rfl) (fun _ _ _ h => h) (.inl ⟨by rfl, ?h57_17⟩) (by assumption) ?_
  case h57_17 => intro w hSw; obtain ⟨hs0, hs1, hs2, hs3, hs4, hs5⟩ := hSw; go_simp; (try with_reducible rfl)
  try simp only [Act.put, List.setIfInBounds_toArray, List.set_cons_zero, List.set_cons_succ]
  refine wpAnyH_take (i := 18) (oi := { dst := some 121, op := _, type := _, pos := _, after := _, guard := _ }) (v := ?v58_18) rfl (by kernel_rfl) (by kernel_rfl) (by kernel_rfl) (fun _ _ _ h => h) (.inl ⟨by rfl, ?h58_18⟩) (by assumption) ?_
  case h58_18 => intro w hSw; obtain ⟨hs0, hs1, hs2, hs3, hs4, hs5⟩ := hSw; go_simp; (try with_reducible rfl)
  try simp only [Act.put, List.setIfInBounds_toArray, List.set_cons_zero, List.set_cons_succ]
  refine wpAnyH_take (i := 19) (oi := { dst := some 122, op := _, type := _, pos := _, after := _, guard := _ }) (v := ?v59_19) rfl (by kernel_rfl) (by kernel_rfl) (by kernel_rfl) (fun _ _ _ h => h) (.inl ⟨by rfl, ?h59_19⟩) (by assumption) ?_
  case h59_19 => intro w hSw; obtain ⟨hs0, hs1, hs2, hs3, hs4, hs5⟩ := hSw; go_simp; (try with_reducible rfl)
  try simp only [Act.put, List.setIfInBounds_toArray, List.set_cons_zero, List.set_cons_succ]
  refine wpAnyH_take (i := 20) (oi := { dst := some 123, op := _, type := _, pos := _, after := _, guard := _ }) (v := ?v60_20) rfl (by kernel_rfl) (by kernel_rfl) (by kernel_rfl) (fun _ _ _ h => h) (.inl ⟨by rfl, ?h60_20⟩) (by assumption) ?_
  case h60_20 => intro w hSw; obtain ⟨hs0, hs1, hs2, hs3, hs4, hs5⟩ := hSw; go_simp; (try with_reducible rfl)
  try simp only [Act.put, List.setIfInBounds_toArray, List.set_cons_zero, List.set_cons_succ]
  refine wpAnyH_take (i := 21) (oi := { dst := some 124, op := _, type := _, pos := _, after := _, guard := _ }) (v := ?v61_21) rfl (by kernel_rfl) (by kernel_rfl) (by kernel_rfl) (fun _ _ _ h => h) (.inl ⟨by rfl, ?h61_21⟩) (by assumption) ?_
  case h61_21 => intro w hSw; obtain ⟨hs0, hs1, hs2, hs3, hs4, hs5⟩ := hSw; go_simp; (try with_reducible rfl)
  try simp only [Act.put, List.setIfInBounds_toArray, List.set_cons_zero, List.set_cons_succ]
  refine wpAnyH_take (i := 22) (oi := { dst := some 125, op := _, type := _, pos := _, after := _, guard := _ }) (v := ?v62_22) rfl (by kernel_rfl) (by kernel_rfl) (by kernel_rfl) (fun _ _ _ h => h) (.inl ⟨by rfl, ?h62_22⟩) (by assumption) ?_
  case h62_22 => intro w hSw; obtain ⟨hs0, hs1, hs2, hs3, hs4, hs5⟩ := hSw; go_simp; (try with_reducible rfl)
  try simp only [Act.put, List.setIfInBounds_toArray, List.set_cons_zero, List.set_cons_succ]
  refine wpAnyH_take (i := 26) (oi := { dst := some 129, op := _, type := _, pos := _, after := _, guard := _ }) (v := ?v63_26) rfl (by kernel_rfl) (by kernel_rfl) (by kernel_rfl) (fun _ _ _ h => h) (.inl ⟨by rfl, ?h63_26⟩) (by assumption) ?_
  case h63_26 => intro w hSw; obtain ⟨hs0, hs1, hs2, hs3, hs4, hs5⟩ := hSw; go_simp; (try with_reducible rfl)
  try simp only [Act.put, List.setIfInBounds_toArray, List.set_cons_zero, List.set_cons_succ]
  refine wpAnyH_ready (rs := [23]) (by kernel_rfl) (by simp) ?_
  refine AllReadyH.cons (o := { dst := some 126, op := _, type := _, pos := _, after := _, guard := _ }) rfl (fun K hK => ?_) AllReadyH.nil
  go_simp
  with_reducible refine (HTo.out _).mono ?_; rintro e w4 ⟨rfl, hc4⟩; have HC4 := Lib.hid ((Ch.refl [] w3).drew.trans hc4); clear hc4; have p1 := (HT.out.ch HC4.out (by simp)).c1; have p2 := (HT.out.ch HC4.out (by simp)).c2; have p3 := (HT.out.ch HC4.out (by simp)).c3; have p4 := (HT.out.ch HC4.out (by simp)).c4; have p5 := (HT.out.ch HC4.out (by simp)).c5; have p6 := (HT.out.ch HC4.out (by simp)).c6; 
  (try go_wp2_with fail)
  refine hK.out _ _ ⟨p1, p2, p3, p4, p5, p6⟩ (fun hHeld => ?_)
  clear hK K
  try simp only [Act.put, List.setIfInBounds_toArray, List.set_cons_zero, List.set_cons_succ]
  refine wpAnyH_ready (rs := [24]) (by kernel_rfl) (by simp) ?_
  refine AllReadyH.cons (o := { dst := some 127, op := _, type := _, pos := _, after := _, guard := _ }) rfl (fun K hK => ?_) AllReadyH.nil
  go_simp
  clear p1 p2 p3 p4 p5 p6; with_reducible refine (HSt.out w4 (HF.out.quiet HC4.out)).mono ?_; rintro e w5 ⟨rfl, hF5, hc5⟩; have HF5 := Lib.hid hF5; have HC5 := Lib.hid ((HC4.out.mono (T := [b]) (by simp)).trans hc5); clear hc5 hF5; have q1 := (HT.out.ch HC5.out (by have := HNe.out; simp; omega)).c1; have q2 := (HT.out.ch HC5.out (by have := HNe.out; simp; omega)).c2; have q3 := (HT.out.ch HC5.out (by have := HNe.out; simp; omega)).c3; have q4 := (HT.out.ch HC5.out (by have := HNe.out; simp; omega)).c4; have q5 := (HT.out.ch HC5.out (by have := HNe.out; simp; omega)).c5; have q6 := (HT.out.ch HC5.out (by have := HNe.out; simp; omega)).c6; 
  (try go_wp2_with fail)
  refine hK.out _ _ ⟨q1, q2, q3, q4, q5, q6⟩ (fun hHeld => ?_)
  clear hK K
  try simp only [Act.put, List.setIfInBounds_toArray, List.set_cons_zero, List.set_cons_succ]
  refine wpAnyH_take (i := 25) (oi := { dst := some 128, op := _, type := _, pos := _, after := _, guard := _ }) (v := ?v64_25) rfl (by kernel_rfl) (by kernel_rfl) (by kernel_rfl) (fun _ _ _ h => h) (.inl ⟨by rfl, ?h64_25⟩) (by assumption) ?_
  case h64_25 => intro w hSw; obtain ⟨hs0, hs1, hs2, hs3, hs4, hs5⟩ := hSw; go_simp; (try with_reducible rfl)
  try simp only [Act.put, List.setIfInBounds_toArray, List.set_cons_zero, List.set_cons_succ]
  refine wpAnyH_take (i := 27) (oi := { dst := some 130, op := _, type := _, pos := _, after := _, guard := _ }) (v := ?v65_27) rfl (by kernel_rfl) (by kernel_rfl) (by kernel_rfl) (fun _ _ _ h => h) (.inl ⟨by rfl, ?h65_27⟩) (by assumption) ?_
  case h65_27 => intro w hSw; obtain ⟨hs0, hs1, hs2, hs3, hs4, hs5⟩ := hSw; go_simp; (try with_reducible rfl)
  try simp only [Act.put, List.setIfInBounds_toArray, List.set_cons_zero, List.set_cons_succ]
  refine wpAnyH_take (i := 28) (oi := { dst := some 131, op := _, type := _, pos := _, after := _, guard := _ }) (v := ?v66_28) rfl (by kernel_rfl) (by kernel_rfl) (by kernel_rfl) (fun _ _ _ h => h) (.inl ⟨by rfl, ?h66_28⟩) (by assumption) ?_
  case h66_28 => intro w hSw; obtain ⟨hs0, hs1, hs2, hs3, hs4, hs5⟩ := hSw; go_simp; (try with_reducible rfl)
  try simp only [Act.put, List.setIfInBounds_toArray, List.set_cons_zero, List.set_cons_succ]
  refine wpAnyH_done (by kernel_rfl) ?_ _
  refine NoPanic.normal ?_
  exact HQ.out ⟨rfl, HF5.out, HC5.out⟩
set_option maxRecDepth 100000 in
set_option maxHeartbeats 4000000 in
theorem setr_out {w3 : World} {b T V : Nat} {t : Int} {x : V5} {S : Bool} (ht : t < 0 ∨ 10 ≤ t) (hT : A7 w3 T 0 S t x) (hV : B5 w3 V (num 0))
    {u0 u1 u2 u4 u5 u6 u8 u9 u10 u14 u15 u16 u17 u18 u19 u20 u21 u22 u23 u24 u25 u26 u27 u28 u29 u30 u31 u32 u33 u34 u35 u36 u37 u38 u39 u40 u41 u42 u43 u44 u45 u46 u47 u48 u49 u50 u51 u52 u53 u54 u55 u56 u57 u58 u59 u60 u61 u62 u63 u64 u65 u66 u67 u68 u69 u70 u71 u72 u73 u74 u75 u76 u77 u78 u79 u80 u81 u82 u83 u84 u85 u86 u87 u88 u89 u90 u91 u92 u93 u94 u95 u96 u97 u98 u99 u100 u101 u102 u103 u104 u105 u106 u107 u108 u109 u110 u111 u112 u113 u114 u115 u116 u117 u118 u119 u120 u121 u122 u123 u124 u125 u126 u127 u128 u129 u130 u131 u132 u133 u134 u135 u136 u137 u138 u139 u140 u141 u142 u143 : Value} {Q : Exit → Act → World → Prop}
    (hQ : ∀ ⦃x103 x104 x105 x106 x107 x108 x109 x110 x111 x112 x113 x114 x115 x116 x117 x118 x119 x120 x121 x122 x123 x124 x125 x126 x127 x128 x129 x130 x131 : Value⦄ ⦃wq : World⦄, x131 = .bool false ∧ Ch [] w3 wq → Q .normal { tmps := #[u0, u1, u2, .pointer (some ⟨b, 0, none⟩), u4, u5, u6, .pointer (some ⟨T, 0, none⟩), u8, u9, u10, .bool false, .pointer (some ⟨V, 0, none⟩), .int .i64 2, u14, u15, u16, u17, u18, u19, u20, u21, u22, u23, u24, u25, u26, u27, u28, u29, u30, u31, u32, u33, u34, u35, u36, u37, u38, u39, u40, u41, u42, u43, u44, u45, u46, u47, u48, u49, u50, u51, u52, u53, u54, u55, u56, u57, u58, u59, u60, u61, u62, u63, u64, u65, u66, u67, u68, u69, u70, u71, u72, u73, u74, u75, u76, u77, u78, u79, u80, u81, u82, u83, u84, u85, u86, u87, u88, u89, u90, u91, u92, u93, u94, u95, u96, u97, u98, u99, u100, u101, u102, x103, x104, x105, x106, x107, x108, x109, x110, x111, x112, x113, x114, x115, x116, x117, x118, x119, x120, x121, x122, x123, x124, x125, x126, x127, x128, x129, x130, x131, u132, u133, u134, u135, u136, u137, u138, u139, u140, u141, u142, u143], defers := [] } wq) :
    Code.wp Try.prog (codeOf [1, 1, 1, 1, 0, 1, 0, 0, 1, 0, 0, 1, 0, 1, 1, 1, 1, 0, 0] (Try.f3.body.getD .skip)) Q { tmps := #[u0, u1, u2, .pointer (some ⟨b, 0, none⟩), u4, u5, u6, .pointer (some ⟨T, 0, none⟩), u8, u9, u10, .bool false, .pointer (some ⟨V, 0, none⟩), .int .i64 2, u14, u15, u16, u17, u18, u19, u20, u21, u22, u23, u24, u25, u26, u27, u28, u29, u30, u31, u32, u33, u34, u35, u36, u37, u38, u39, u40, u41, u42, u43, u44, u45, u46, u47, u48, u49, u50, u51, u52, u53, u54, u55, u56, u57, u58, u59, u60, u61, u62, u63, u64, u65, u66, u67, u68, u69, u70, u71, u72, u73, u74, u75, u76, u77, u78, u79, u80, u81, u82, u83, u84, u85, u86, u87, u88, u89, u90, u91, u92, u93, u94, u95, u96, u97, u98, u99, u100, u101, u102, u103, u104, u105, u106, u107, u108, u109, u110, u111, u112, u113, u114, u115, u116, u117, u118, u119, u120, u121, u122, u123, u124, u125, u126, u127, u128, u129, u130, u131, u132, u133, u134, u135, u136, u137, u138, u139, u140, u141, u142, u143], defers := [] } w3 := by
  have HQ := Lib.hid hQ
  have HT := Lib.hid hT
  obtain ⟨z, hz⟩ : ∃ z, num 0 = z := ⟨_, rfl⟩
  rw [hz] at hV
  have HV := Lib.hid hV
  have HTo := Lib.hid (fun w => to5_any x w)
  have HN0 := Lib.hid (fun W => show Calls Try.prog 9 #[.int .u64 0] W fun e w' => e = .returned (vv z) ∧ Ch [] W w' from by rw [← hz]; exact num_any 0 W)
  have HSt := Lib.hid (fun W => setreg_out (w := W) b ht x)
  have e1 : ∀ w, (binOp .neq 38 (vv z) (vv z)).run Try.prog w = .ok (.bool false) w := fun w => by have := eq_fvn z z w; rw [eqV_self] at this; exact this
  unfold vv at HTo HSt HN0 e1
  have hS0 : (fun w' : World => w'.cell? ⟨T, 1, none⟩ = some (.int .i64 t) ∧ w'.cell? ⟨T, 2, none⟩ = some (.bool x.r) ∧ w'.cell? ⟨T, 3, none⟩ = some (.int .i64 x.m) ∧ w'.cell? ⟨T, 4, none⟩ = some (.int .i64 x.s) ∧ w'.cell? ⟨T, 5, none⟩ = some (.int .i64 x.g) ∧ w'.cell? ⟨T, 6, none⟩ = some (.int .u64 (x.n : Int)) ∧ w'.cell? ⟨V, 0, none⟩ = some (.bool z.r) ∧ w'.cell? ⟨V, 1, none⟩ = some (.int .i64 z.m) ∧ w'.cell? ⟨V, 2, none⟩ = some (.int .i64 z.s) ∧ w'.cell? ⟨V, 3, none⟩ = some (.int .i64 z.g) ∧ w'.cell? ⟨V, 4, none⟩ = some (.int .u64 (z.n : Int))) w3.drew := ⟨hT.c1, hT.c2, hT.c3, hT.c4, hT.c5, hT.c6, hV.a.c0, hV.a.c1, hV.a.c2, hV.a.c3, hV.a.c4⟩
  clear hQ hT hz hV ht
  simp only [codeOf, Try.f3, Option.getD_some]
  refine wp_region_noPanic ?_
  refine wp_region_held_drew (S := fun w' : World => w'.cell? ⟨T, 1, none⟩ = some (.int .i64 t) ∧ w'.cell? ⟨T, 2, none⟩ = some (.bool x.r) ∧ w'.cell? ⟨T, 3, none⟩ = some (.int .i64 x.m) ∧ w'.cell? ⟨T, 4, none⟩ = some (.int .i64 x.s) ∧ w'.cell? ⟨T, 5, none⟩ = some (.int .i64 x.g) ∧ w'.cell? ⟨T, 6, none⟩ = some (.int .u64 (x.n : Int)) ∧ w'.cell? ⟨V, 0, none⟩ = some (.bool z.r) ∧ w'.cell? ⟨V, 1, none⟩ = some (.int .i64 z.m) ∧ w'.cell? ⟨V, 2, none⟩ = some (.int .i64 z.s) ∧ w'.cell? ⟨V, 3, none⟩ = some (.int .i64 z.g) ∧ w'.cell? ⟨V, 4, none⟩ = some (.int .u64 (z.n : Int))) (by kernel_rfl) hS0 (fun hHeld => ?_)
  clear hS0
  refine wpAnyH_take (i := 0) (oi := { dst := some 103, op := _, type := _, pos := _, after := _, guard := _ }) (v := ?v67_0) rfl (by kernel_rfl) (by kernel_rfl) (by kernel_rfl) (fun _ _ _ h => h) (.inl ⟨by rfl, ?h67_0⟩) (by assumption) ?_
  case h67_0 => intro w hSw; obtain ⟨hs0, hs1, hs2, hs3, hs4, hs5, hs6, hs7, hs8, hs9, hs10⟩ := hSw; go_simp; (try with_reducible rfl)
  try simp only [Act.put, List.setIfInBounds_toArray, List.set_cons_zero, List.set_cons_succ]
  refine wpAnyH_take (i := 1) (oi := { dst := some 104, op := _, type := _, pos := _, after := _, guard := _ }) (v := ?v68_1) rfl (by kernel_rfl) (by kernel_rfl) (by kernel_rfl) (fun _ _ _ h => h) (.inl ⟨by rfl, ?h68_1⟩) (by assumption) ?_
  case h68_1 => intro w hSw; obtain ⟨hs0, hs1, hs2, hs3, hs4, hs5, hs6, hs7, hs8, hs9, hs10⟩ := hSw; go_simp; (try with_reducible rfl)
  try simp only [Act.put, List.setIfInBounds_toArray, List.set_cons_zero, List.set_cons_succ]
  refine wpAnyH_take (i := 2) (oi := { dst := some 105, op := _, type := _, pos := _, after := _, guard := _ }) (v := ?v69_2) rfl (by kernel_rfl) (by kernel_rfl) (by kernel_rfl) (fun _ _ _ h => h) (.inl ⟨by rfl, ?h69_2⟩) (by assumption) ?_
  case h69_2 => intro w hSw; obtain ⟨hs0, hs1, hs2, hs3, hs4, hs5, hs6, hs7, hs8, hs9, hs10⟩ := hSw; go_simp; (try with_reducible rfl)
  try simp only [Act.put, List.setIfInBounds_toArray, List.set_cons_zero, List.set_cons_succ]
  refine wpAnyH_take (i := 3) (oi := { dst := some 106, op := _, type := _, pos := _, after := _, guard := _ }) (v := ?v70_3) rfl (by kernel_rfl) (by kernel_rfl) (by kernel_rfl) (fun _ _ _ h => h) (.inl ⟨by rfl, ?h70_3⟩) (by assumption) ?_
  case h70_3 => intro w hSw; obtain ⟨hs0, hs1, hs2, hs3, hs4, hs5, hs6, hs7, hs8, hs9, hs10⟩ := hSw; go_simp; (try with_reducible rfl)
  try simp only [Act.put, List.setIfInBounds_toArray, List.set_cons_zero, List.set_cons_succ]
  refine wpAnyH_take (i := 4) (oi := { dst := some 107, op := _, type := _, pos := _, after := _, guard := _ }) (v := ?v71_4) rfl (by kernel_rfl) (by kernel_rfl) (by kernel_rfl) (fun _ _ _ h => h) (.inl ⟨by rfl, ?h71_4⟩) (by assumption) ?_
  case h71_4 => intro w hSw; obtain ⟨hs0, hs1, hs2, hs3, hs4, hs5, hs6, hs7, hs8, hs9, hs10⟩ := hSw; go_simp; (try with_reducible rfl)
  try simp only [Act.put, List.setIfInBounds_toArray, List.set_cons_zero, List.set_cons_succ]
  refine wpAnyH_take (i := 5) (oi := { dst := some 108, op := _, type := _, pos := _, after := _, guard := _ }) (v := ?v72_5) rfl (by kernel_rfl) (by kernel_rfl) (by kernel_rfl) (fun _ _ _ h => h) (.inl ⟨by rfl, ?h72_5⟩) (by assumption) ?_
  case h72_5 => intro w hSw; obtain ⟨hs0, hs1, hs2, hs3, hs4, hs5, hs6, hs7, hs8, hs9, hs10⟩ := hSw; go_simp; (try with_reducible rfl)
  try simp only [Act.put, List.setIfInBounds_toArray, List.set_cons_zero, List.set_cons_succ]
  refine wpAnyH_take (i := 6) (oi := { dst := some 109, op := _, type := _, pos := _, after := _, guard := _ }) (v := ?v73_6) rfl (by kernel_rfl) (by kernel_rfl) (by kernel_rfl) (fun _ _ _ h => h) (.inl ⟨by rfl, ?h73_6⟩) (by assumption) ?_
  case h73_6 => intro w hSw; obtain ⟨hs0, hs1, hs2, hs3, hs4, hs5, hs6, hs7, hs8, hs9, hs10⟩ := hSw; go_simp; (try with_reducible rfl)
  try simp only [Act.put, List.setIfInBounds_toArray, List.set_cons_zero, List.set_cons_succ]
  refine wpAnyH_take (i := 7) (oi := { dst := some 110, op := _, type := _, pos := _, after := _, guard := _ }) (v := ?v74_7) rfl (by kernel_rfl) (by kernel_rfl) (by kernel_rfl) (fun _ _ _ h => h) (.inl ⟨by rfl, ?h74_7⟩) (by assumption) ?_
  case h74_7 => intro w hSw; obtain ⟨hs0, hs1, hs2, hs3, hs4, hs5, hs6, hs7, hs8, hs9, hs10⟩ := hSw; go_simp; (try with_reducible rfl)
  try simp only [Act.put, List.setIfInBounds_toArray, List.set_cons_zero, List.set_cons_succ]
  refine wpAnyH_take (i := 8) (oi := { dst := some 111, op := _, type := _, pos := _, after := _, guard := _ }) (v := ?v75_8) rfl (by kernel_rfl) (by kernel_rfl) (by kernel_rfl) (fun _ _ _ h => h) (.inl ⟨by rfl, ?h75_8⟩) (by assumption) ?_
  case h75_8 => intro w hSw; obtain ⟨hs0, hs1, hs2, hs3, hs4, hs5, hs6, hs7, hs8, hs9, hs10⟩ := hSw; go_simp; (try with_reducible rfl)
  try simp only [Act.put, List.setIfInBounds_toArray, List.set_cons_zero, List.set_cons_succ]
  refine wpAnyH_take (i := 9) (oi := { dst := some 112, op := _, type := _, pos := _, after := _, guard := _ }) (v := ?v76_9) rfl (by kernel_rfl) (by kernel_rfl) (by kernel_rfl) (fun _ _ _ h => h) (.inl ⟨by rfl, ?h76_9⟩) (by assumption) ?_
  case h76_9 => intro w hSw; obtain ⟨hs0, hs1, hs2, hs3, hs4, hs5, hs6, hs7, hs8, hs9, hs10⟩ := hSw; go_simp; (try with_reducible rfl)
  try simp only [Act.put, List.setIfInBounds_toArray, List.set_cons_zero, List.set_cons_succ]
  refine wpAnyH_take (i := 10) (oi := { dst := some 113, op := _, type := _, pos := _, after := _, guard := _ }) (v := ?v77_10) rfl (by kernel_rfl) (by kernel_rfl) (by kernel_rfl) (fun _ _ _ h => h) (.inl ⟨by rfl, ?h77_10⟩) (by assumption) ?_
  case h77_10 => intro w hSw; obtain ⟨hs0, hs1, hs2, hs3, hs4, hs5, hs6, hs7, hs8, hs9, hs10⟩ := hSw; go_simp; (try with_reducible rfl)
  try simp only [Act.put, List.setIfInBounds_toArray, List.set_cons_zero, List.set_cons_succ]
  refine wpAnyH_take (i := 11) (oi := { dst := some 114, op := _, type := _, pos := _, after := _, guard := _ }) (v := ?v78_11) rfl (by kernel_rfl) (by kernel_rfl) (by kernel_rfl) (fun _ _ _ h => h) (.inl ⟨by rfl, ?h78_11⟩) (by assumption) ?_
  case h78_11 => intro w hSw; obtain ⟨hs0, hs1, hs2, hs3, hs4, hs5, hs6, hs7, hs8, hs9, hs10⟩ := hSw; go_simp; (try with_reducible rfl)
  try simp only [Act.put, List.setIfInBounds_toArray, List.set_cons_zero, List.set_cons_succ]
  refine wpAnyH_ready (rs := [12]) (by kernel_rfl) (by simp) ?_
  refine AllReadyH.cons (o := { dst := some 115, op := _, type := _, pos := _, after := _, guard := _ }) rfl (fun K hK => ?_) AllReadyH.nil
  go_simp
  with_reducible refine (HN0.out _).mono ?_; rintro e w4 ⟨rfl, hc4⟩; have HC4 := Lib.hid ((Ch.refl [] w3).drew.trans hc4); clear hc4; have p1 := (HT.out.ch HC4.out (by simp)).c1; have p2 := (HT.out.ch HC4.out (by simp)).c2; have p3 := (HT.out.ch HC4.out (by simp)).c3; have p4 := (HT.out.ch HC4.out (by simp)).c4; have p5 := (HT.out.ch HC4.out (by simp)).c5; have p6 := (HT.out.ch HC4.out (by simp)).c6; obtain ⟨⟨r0, r1, r2, r3, r4⟩, -⟩ := HV.out.quiet HC4.out; simp only [Nat.zero_add] at r1 r2 r3 r4; 
  (try go_wp2_with fail)
  refine hK.out _ _ ⟨p1, p2, p3, p4, p5, p6, r0, r1, r2, r3, r4⟩ (fun hHeld => ?_)
  clear hK K
  try simp only [Act.put, List.setIfInBounds_toArray, List.set_cons_zero, List.set_cons_succ]
  refine wpAnyH_take (i := 13) (oi := { dst := some 116, op := _, type := _, pos := _, after := _, guard := _ }) (v := ?v79_13) rfl (by kernel_rfl) (by kernel_rfl) (by kernel_rfl) (fun _ _ _ h => h) (.inl ⟨by rfl, ?h79_13⟩) (by assumption) ?_
  case h79_13 => intro w hSw; obtain ⟨hs0, hs1, hs2, hs3, hs4, hs5, hs6, hs7, hs8, hs9, hs10⟩ := hSw; go_simp; (try with_reducible rfl)
  try simp only [Act.put, List.setIfInBounds_toArray, List.set_cons_zero, List.set_cons_succ]
  refine wpAnyH_take (i := 14) (oi := { dst := some 117, op := _, type := _, pos := _, after := _, guard := _ }) (v := ?v80_14) rfl (by kernel_rfl) (by kernel_rfl) (by kernel_rfl) (fun _ _ _ h => h) (.inl ⟨by rfl, ?h80_14⟩) (by assumption) ?_
  case h80_14 => intro w hSw; obtain ⟨hs0, hs1, hs2, hs3, hs4, hs5, hs6, hs7, hs8, hs9, hs10⟩ := hSw; go_simp; (try with_reducible rfl)
  try simp only [Act.put, List.setIfInBounds_toArray, List.set_cons_zero, List.set_cons_succ]
  refine wpAnyH_take (i := 15) (oi := { dst := some 118, op := _, type := _, pos := _, after := _, guard := _ }) (v := ?v81_15) rfl (by kernel_rfl) (by kernel_rfl) (by kernel_rfl) (fun _ _ _ h => h) (.inl ⟨by rfl, ?h81_15⟩) (by assumption) ?_
  case h81_15 => intro w hSw; obtain ⟨hs0, hs1, hs2, hs3, hs4, hs5, hs6, hs7, hs8, hs9, hs10⟩ := hSw; go_simp; (try with_reducible rfl)
  try simp only [Act.put, List.setIfInBounds_toArray, List.set_cons_zero, List.set_cons_succ]
  refine wpAnyH_take (i := 16) (oi := { dst := some 119, op := _, type := _, pos := _, after := _, guard := _ }) (v := ?v82_16) rfl (by kernel_rfl) (by kernel_rfl) (by kernel_rfl) (fun _ _ _ h => h) (.inl ⟨by rfl, ?h82_16⟩) (by assumption) ?_
  case h82_16 => intro w hSw; obtain ⟨hs0, hs1, hs2, hs3, hs4, hs5, hs6, hs7, hs8, hs9, hs10⟩ := hSw; go_simp; (try with_reducible rfl)
  try simp only [Act.put, List.setIfInBounds_toArray, List.set_cons_zero, List.set_cons_succ]
  refine wpAnyH_take (i := 17) (oi := { dst := some 120, op := _, type := _, pos := _, after := _, guard := _ }) (v := ?v83_17) rfl (by kernel_rfl) (by kernel_rfl) (by kernel_rfl) (fun _ _ _ h => h) (.inl ⟨by rfl, ?h83_17⟩) (by assumption) ?_
  case h83_17 => intro w hSw; obtain ⟨hs0, hs1, hs2, hs3, hs4, hs5, hs6, hs7, hs8, hs9, hs10⟩ := hSw; go_simp; (try with_reducible rfl)
  try simp only [Act.put, List.setIfInBounds_toArray, List.set_cons_zero, List.set_cons_succ]
  refine wpAnyH_take (i := 18) (oi := { dst := some 121, op := _, type := _, pos := _, after := _, guard := _ }) (v := ?v84_18) rfl (by kernel_rfl) (by kernel_rfl) (by kernel_rfl) (fun _ _ _ h => h) (.inl ⟨by rfl, ?h84_18⟩) (by assumption) ?_
  case h84_18 => intro w hSw; obtain ⟨hs0, hs1, hs2, hs3, hs4, hs5, hs6, hs7, hs8, hs9, hs10⟩ := hSw; go_simp; (try with_reducible rfl)
  try simp only [Act.put, List.setIfInBounds_toArray, List.set_cons_zero, List.set_cons_succ]
  refine wpAnyH_take (i := 19) (oi := { dst := some 122, op := _, type := _, pos := _, after := _, guard := _ }) (v := ?v85_19) rfl (by kernel_rfl) (by kernel_rfl) (by kernel_rfl) (fun _ _ _ h => h) (.inl ⟨by rfl, ?h85_19⟩) (by assumption) ?_
  case h85_19 => intro w hSw; obtain ⟨hs0, hs1, hs2, hs3, hs4, hs5, hs6, hs7, hs8, hs9, hs10⟩ := hSw; go_simp; (try with_reducible rfl)
  try simp only [Act.put, List.setIfInBounds_toArray, List.set_cons_zero, List.set_cons_succ]
  refine wpAnyH_take (i := 20) (oi := { dst := some 123, op := _, type := _, pos := _, after := _, guard := _ }) (v := ?v86_20) rfl (by kernel_rfl) (by kernel_rfl) (by kernel_rfl) (fun _ _ _ h => h) (.inl ⟨by rfl, ?h86_20⟩) (by assumption) ?_
  case h86_20 => intro w hSw; obtain ⟨hs0, hs1, hs2, hs3, hs4, hs5, hs6, hs7, hs8, hs9, hs10⟩ := hSw; go_simp; (try with_reducible rfl)
  try simp only [Act.put, List.setIfInBounds_toArray, List.set_cons_zero, List.set_cons_succ]
  refine wpAnyH_take (i := 21) (oi := { dst := some 124, op := _, type := _, pos := _, after := _, guard := _ }) (v := ?v87_21) rfl (by kernel_rfl) (by kernel_rfl) (by kernel_rfl) (fun _ _ _ h => h) (.inl ⟨by rfl, ?h87_21⟩) (by assumption) ?_
  case h87_21 => intro w hSw; obtain ⟨hs0, hs1, hs2, hs3, hs4, hs5, hs6, hs7, hs8, hs9, hs10⟩ := hSw; go_simp; (try with_reducible rfl)
  try simp only [Act.put, List.setIfInBounds_toArray, List.set_cons_zero, List.set_cons_succ]
  refine wpAnyH_take (i := 22) (oi := { dst := some 125, op := _, type := _, pos := _, after := _, guard := _ }) (v := ?v88_22) rfl (by kernel_rfl) (by kernel_rfl) (by kernel_rfl) (fun _ _ _ h => h) (.inl ⟨by rfl, ?h88_22⟩) (by assumption) ?_
  case h88_22 => intro w hSw; obtain ⟨hs0, hs1, hs2, hs3, hs4, hs5, hs6, hs7, hs8, hs9, hs10⟩ := hSw; go_simp; (try with_reducible rfl)
  try simp only [Act.put, List.setIfInBounds_toArray, List.set_cons_zero, List.set_cons_succ]
  refine wpAnyH_take (i := 26) (oi := { dst := some 129, op := _, type := _, pos := _, after := _, guard := _ }) (v := ?v89_26) rfl (by kernel_rfl) (by kernel_rfl) (by kernel_rfl) (fun _ _ _ h => h) (.inl ⟨by rfl, ?h89_26⟩) (by assumption) ?_
  case h89_26 => intro w hSw; obtain ⟨hs0, hs1, hs2, hs3, hs4, hs5, hs6, hs7, hs8, hs9, hs10⟩ := hSw; go_simp; (try with_reducible rfl)
  try simp only [Act.put, List.setIfInBounds_toArray, List.set_cons_zero, List.set_cons_succ]
  refine wpAnyH_ready (rs := [23]) (by kernel_rfl) (by simp) ?_
  refine AllReadyH.cons (o := { dst := some 126, op := _, type := _, pos := _, after := _, guard := _ }) rfl (fun K hK => ?_) AllReadyH.nil
  go_simp
  clear p1 p2 p3 p4 p5 p6 r0 r1 r2 r3 r4; with_reducible refine (HTo.out _).mono ?_; rintro e w5 ⟨rfl, hc5⟩; have HC5 := Lib.hid (HC4.out.trans hc5); clear hc5; have q1 := (HT.out.ch HC5.out (by simp)).c1; have q2 := (HT.out.ch HC5.out (by simp)).c2; have q3 := (HT.out.ch HC5.out (by simp)).c3; have q4 := (HT.out.ch HC5.out (by simp)).c4; have q5 := (HT.out.ch HC5.out (by simp)).c5; have q6 := (HT.out.ch HC5.out (by simp)).c6; obtain ⟨⟨s0, s1, s2, s3, s4⟩, -⟩ := HV.out.quiet HC5.out; simp only [Nat.zero_add] at s1 s2 s3 s4; 
  (try go_wp2_with fail)
  refine hK.out _ _ ⟨q1, q2, q3, q4, q5, q6, s0, s1, s2, s3, s4⟩ (fun hHeld => ?_)
  clear hK K
  try simp only [Act.put, List.setIfInBounds_toArray, List.set_cons_zero, List.set_cons_succ]
  refine wpAnyH_ready (rs := [24]) (by kernel_rfl) (by simp) ?_
  refine AllReadyH.cons (o := { dst := some 127, op := _, type := _, pos := _, after := _, guard := _ }) rfl (fun K hK => ?_) AllReadyH.nil
  go_simp
  clear q1 q2 q3 q4 q5 q6 s0 s1 s2 s3 s4; with_reducible refine (HSt.out _).mono ?_; rintro e w6 ⟨rfl, hc6⟩; have HC6 := Lib.hid (HC5.out.trans hc6); clear hc6; have t1 := (HT.out.ch HC6.out (by simp)).c1; have t2 := (HT.out.ch HC6.out (by simp)).c2; have t3 := (HT.out.ch HC6.out (by simp)).c3; have t4 := (HT.out.ch HC6.out (by simp)).c4; have t5 := (HT.out.ch HC6.out (by simp)).c5; have t6 := (HT.out.ch HC6.out (by simp)).c6; obtain ⟨⟨y0, y1, y2, y3, y4⟩, -⟩ := HV.out.quiet HC6.out; simp only [Nat.zero_add] at y1 y2 y3 y4; 
  (try go_wp2_with fail)
  refine hK.out _ _ ⟨t1, t2, t3, t4, t5, t6, y0, y1, y2, y3, y4⟩ (fun hHeld => ?_)
  clear hK K
  try simp only [Act.put, List.setIfInBounds_toArray, List.set_cons_zero, List.set_cons_succ]
  refine wpAnyH_take (i := 25) (oi := { dst := some 128, op := _, type := _, pos := _, after := _, guard := _ }) (v := ?v90_25) rfl (by kernel_rfl) (by kernel_rfl) (by kernel_rfl) (fun _ _ _ h => h) (.inl ⟨by rfl, ?h90_25⟩) (by assumption) ?_
  case h90_25 => intro w hSw; obtain ⟨hs0, hs1, hs2, hs3, hs4, hs5, hs6, hs7, hs8, hs9, hs10⟩ := hSw; go_simp; (try with_reducible rfl)
  try simp only [Act.put, List.setIfInBounds_toArray, List.set_cons_zero, List.set_cons_succ]
  refine wpAnyH_take (i := 27) (oi := { dst := some 130, op := _, type := _, pos := _, after := _, guard := _ }) (v := ?v91_27) rfl (by kernel_rfl) (by kernel_rfl) (by kernel_rfl) (fun _ _ _ h => h) (.inl ⟨by rfl, ?h91_27⟩) (by assumption) ?_
  case h91_27 => intro w hSw; obtain ⟨hs0, hs1, hs2, hs3, hs4, hs5, hs6, hs7, hs8, hs9, hs10⟩ := hSw; go_simp; (try with_reducible rfl)
  try simp only [Act.put, List.setIfInBounds_toArray, List.set_cons_zero, List.set_cons_succ]
  refine wpAnyH_take (i := 28) (oi := { dst := some 131, op := _, type := _, pos := _, after := _, guard := _ }) (v := ?v92_28) rfl (by kernel_rfl) (by kernel_rfl) (by kernel_rfl) (fun _ _ _ h => h) (.inl ⟨by rfl, ?h92_28⟩) (by assumption) ?_
  case h92_28 => intro w hSw; obtain ⟨hs0, hs1, hs2, hs3, hs4, hs5, hs6, hs7, hs8, hs9, hs10⟩ := hSw; go_simp; (try with_reducible rfl)
  try simp only [Act.put, List.setIfInBounds_toArray, List.set_cons_zero, List.set_cons_succ]
  refine wpAnyH_done (by kernel_rfl) ?_ _
  refine NoPanic.normal ?_
  exact HQ.out ⟨rfl, HC6.out⟩
end Go.Proofs.Ytlffcccicpdnfaa

/-
  The program's Check.
-/
import Derived.Test.YtlffcccicpdnfaaIsC
import Derived.BigQuiet
import Derived.Laws.StructEq
namespace Go.Proofs.Ytlffcccicpdnfaa
open Go.RowKit Go.BigFrame

attribute [local go_sem] Oper.semAt_some

/-- Five cells of a block. -/
structure Five (w : World) (b : Nat) (x : I5) : Prop where
  c0 : w.cell? ⟨b, 0, none⟩ = some (.int .i64 x.op)
  c1 : w.cell? ⟨b, 1, none⟩ = some (.int .i64 x.d)
  c2 : w.cell? ⟨b, 2, none⟩ = some (.int .i64 x.s)
  c3 : w.cell? ⟨b, 3, none⟩ = some (.int .i64 x.o)
  c4 : w.cell? ⟨b, 4, none⟩ = some (.int .i64 x.i)
theorem Five.new (w : World) (x : I5) (t : TypeId) : Five (w.alloc (.cells #[.int .i64 x.op, .int .i64 x.d, .int .i64 x.s, .int .i64 x.o, .int .i64 x.i] t)) w.heap.size x :=
  ⟨by rw [World.cell?_alloc_at _ _ _ _ rfl]; rfl, by rw [World.cell?_alloc_at _ _ _ _ rfl]; rfl, by rw [World.cell?_alloc_at _ _ _ _ rfl]; rfl, by rw [World.cell?_alloc_at _ _ _ _ rfl]; rfl, by rw [World.cell?_alloc_at _ _ _ _ rfl]; rfl⟩
theorem Five.lt {w : World} {b : Nat} {x : I5} (h : Five w b x) : b < w.heap.size := cell_lt h.c0
theorem Five.ch {S : List Nat} {w w' : World} {b : Nat} {x : I5} (h : Five w b x) (hc : Ch S w w') (hb : b ∉ S) : Five w' b x :=
  ⟨(hc.cell (p := ⟨b, 0, none⟩) h.lt hb).trans h.c0, (hc.cell (p := ⟨b, 1, none⟩) h.lt hb).trans h.c1, (hc.cell (p := ⟨b, 2, none⟩) h.lt hb).trans h.c2, (hc.cell (p := ⟨b, 3, none⟩) h.lt hb).trans h.c3, (hc.cell (p := ⟨b, 4, none⟩) h.lt hb).trans h.c4⟩
/-- Four booleans in a block. -/
structure Bo4 (w : World) (b : Nat) (p q r s : Bool) : Prop where
  c0 : w.cell? ⟨b, 0, none⟩ = some (.bool p)
  c1 : w.cell? ⟨b, 1, none⟩ = some (.bool q)
  c2 : w.cell? ⟨b, 2, none⟩ = some (.bool r)
  c3 : w.cell? ⟨b, 3, none⟩ = some (.bool s)
theorem Bo4.new (w : World) (p q r s : Bool) (t : TypeId) : Bo4 (w.alloc (.cells #[.bool p, .bool q, .bool r, .bool s] t)) w.heap.size p q r s :=
  ⟨by rw [World.cell?_alloc_at _ _ _ _ rfl]; rfl, by rw [World.cell?_alloc_at _ _ _ _ rfl]; rfl, by rw [World.cell?_alloc_at _ _ _ _ rfl]; rfl, by rw [World.cell?_alloc_at _ _ _ _ rfl]; rfl⟩
theorem Bo4.lt {w : World} {b : Nat} {p q r s : Bool} (h : Bo4 w b p q r s) : b < w.heap.size := cell_lt h.c0
theorem Bo4.ch {S : List Nat} {w w' : World} {b : Nat} {p q r s : Bool} (h : Bo4 w b p q r s) (hc : Ch S w w') (hb : b ∉ S) : Bo4 w' b p q r s :=
  ⟨(hc.cell (p := ⟨b, 0, none⟩) h.lt hb).trans h.c0, (hc.cell (p := ⟨b, 1, none⟩) h.lt hb).trans h.c1, (hc.cell (p := ⟨b, 2, none⟩) h.lt hb).trans h.c2, (hc.cell (p := ⟨b, 3, none⟩) h.lt hb).trans h.c3⟩

/-- What it doesn't use is 0, as the program asks it. -/
theorem form_bools (x : I5) : decide (form x) = ((has (shp x.op) 100 || x.d != 0) == has (shp x.op) 100 && (has (shp x.op) 115 || x.s != 0) == has (shp x.op) 115 && (has (shp x.op) 111 || x.o != 0) == has (shp x.op) 111 && (has (shp x.op) 105 || x.i != 0) == has (shp x.op) 105) := by
  rw [Bool.eq_iff_iff, decide_eq_true_iff]
  unfold form
  cases has (shp x.op) 100 <;> cases has (shp x.op) 115 <;> cases has (shp x.op) 111 <;> cases has (shp x.op) 105 <;> simp [and_assoc]


theorem eq_parts (p q r s a b c d : Bool) (w : World) : (binOp .neq 91 (.agg #[.bool p, .bool q, .bool r, .bool s]) (.agg #[.bool a, .bool b, .bool c, .bool d])).run Try.prog w = .ok (.bool (!(p == a && q == b && r == c && s == d))) w := by
  have ht : Try.prog.underlying 91 = some (.struct (Try.prog.fieldsOf 91)) := by kernel_rfl
  have hp : Try.prog.stoodInHeld 91 = false := by kernel_rfl
  rw [run_neq_struct, run_equalIn_struct (d := 9999) w 91 _ _ ht hp]
  have e4 : Try.prog.underlying 4 = some .bool := Try.underlying4
  cases h1 : p == a <;> cases h2 : q == b <;> cases h3 : r == c <;> cases h4 : s == d <;>
  simp [Program.fieldsOf, Try.underlying91, go_sem, Op.eqFields, run_equalIn_bool' (P := Try.prog) _ _ _ _ _ e4, h1, h2, h3, h4]

theorem check_none {x : I5} (hx : Fit x) (h : cls x.op = 0) (w : World) : Calls Try.prog 37 #[iv x] w fun e w' => e = .returned (.int .i64 11) ∧ Ch [] w w' := by
  obtain ⟨op, d, s, o, i⟩ := x
  have HU := Lib.hid (fun w => used_any hx.op.1 hx.op.2 w)
  have HY := Lib.hid (fun w => class_any hx.op.1 hx.op.2 w)
  have HBd := Lib.hid (fun w => bounded_any op d s o i w)
  have HF := Lib.hid (Five.new w ⟨op, d, s, o, i⟩ 63)
  have HC := Lib.hid ((Ch.refl [] w).alloc (.cells #[.int .i64 op, .int .i64 d, .int .i64 s, .int .i64 o, .int .i64 i] 63))
  simp only at *
  unfold iv
  rw [h] at HY
  generalize has (shp op) 100 = u1 at *
  generalize has (shp op) 115 = u2 at *
  generalize has (shp op) 111 = u3 at *
  generalize has (shp op) 105 = u4 at *
  clear h hx HBd
  go_enter Try.func37, Try.ntmps37
  go_wp2_with fail
  with_reducible refine (HU.out _).mono ?_
  rintro e w1 ⟨rfl, hc1⟩
  have HF1 := Lib.hid ((HF.out.ch hc1 (by simp)).ch ((Ch.refl [] w1).alloc (.cells #[.bool u1, .bool u2, .bool u3, .bool u4] 91)) (by simp))
  have HB1 := Lib.hid (Bo4.new w1 u1 u2 u3 u4 91)
  have HC1 := Lib.hid ((HC.out.trans hc1).alloc (.cells #[.bool u1, .bool u2, .bool u3, .bool u4] 91))
  clear hc1
  obtain ⟨a0, a1, a2, a3, a4⟩ := HF1.out
  simp only at a0 a1 a2 a3 a4
  go_wp2_with (first
    | (with_reducible refine (HY.out _).mono ?_; rintro e w' ⟨rfl, rfl⟩)
    | fail)
  go_ret
  exact ⟨rfl, HC1.out⟩

theorem check_out {x : I5} (hx : Fit x) (h : cls x.op ≠ 0) (hb : decide (inB x) = false) (w : World) : Calls Try.prog 37 #[iv x] w fun e w' => e = .returned (.int .i64 2) ∧ Ch [] w w' := by
  obtain ⟨op, d, s, o, i⟩ := x
  have HU := Lib.hid (fun w => used_any hx.op.1 hx.op.2 w)
  have HY := Lib.hid (fun w => class_any hx.op.1 hx.op.2 w)
  have HBd := Lib.hid (fun w => bounded_any op d s o i w)
  have HF := Lib.hid (Five.new w ⟨op, d, s, o, i⟩ 63)
  have HC := Lib.hid ((Ch.refl [] w).alloc (.cells #[.int .i64 op, .int .i64 d, .int .i64 s, .int .i64 o, .int .i64 i] 63))
  simp only at *
  unfold iv
  rw [hb] at HBd
  have hcb : (cls op == 0) = false := by simpa using h
  generalize has (shp op) 100 = u1 at *
  generalize has (shp op) 115 = u2 at *
  generalize has (shp op) 111 = u3 at *
  generalize has (shp op) 105 = u4 at *
  generalize cls op = c at *
  clear h hx hb
  go_enter Try.func37, Try.ntmps37
  go_wp2_with fail
  with_reducible refine (HU.out _).mono ?_
  rintro e w1 ⟨rfl, hc1⟩
  have HF1 := Lib.hid ((HF.out.ch hc1 (by simp)).ch ((Ch.refl [] w1).alloc (.cells #[.bool u1, .bool u2, .bool u3, .bool u4] 91)) (by simp))
  have HB1 := Lib.hid (Bo4.new w1 u1 u2 u3 u4 91)
  have HC1 := Lib.hid ((HC.out.trans hc1).alloc (.cells #[.bool u1, .bool u2, .bool u3, .bool u4] 91))
  clear hc1
  obtain ⟨a0, a1, a2, a3, a4⟩ := HF1.out
  simp only at a0 a1 a2 a3 a4
  go_wp2_with (first
    | (with_reducible refine (HY.out _).mono ?_; rintro e w' ⟨rfl, rfl⟩)
    | (with_reducible refine (HBd.out _).mono ?_; rintro e w2 ⟨rfl, hc2⟩; have HC2 := Lib.hid (HC1.out.trans hc2); clear hc2)
    | fail)
  go_ret
  exact ⟨rfl, HC2.out⟩

set_option maxHeartbeats 2000000 in
theorem check_form {x : I5} (hx : Fit x) (h : cls x.op ≠ 0) (hb : decide (inB x) = true) (w : World) : Calls Try.prog 37 #[iv x] w fun e w' => e = .returned (.int .i64 (if form x then 0 else 9)) ∧ Ch [] w w' := by
  have hfb := form_bools x
  obtain ⟨op, d, s, o, i⟩ := x
  have HU := Lib.hid (fun w => used_any hx.op.1 hx.op.2 w)
  have HY := Lib.hid (fun w => class_any hx.op.1 hx.op.2 w)
  have HBd := Lib.hid (fun w => bounded_any op d s o i w)
  have HF := Lib.hid (Five.new w ⟨op, d, s, o, i⟩ 63)
  have HC := Lib.hid ((Ch.refl [] w).alloc (.cells #[.int .i64 op, .int .i64 d, .int .i64 s, .int .i64 o, .int .i64 i] 63))
  simp only at *
  unfold iv
  rw [hb] at HBd
  have hcb : (cls op == 0) = false := by simpa using h
  have HFi := Lib.hid (fun w => filled_any op d s o i w)
  obtain ⟨r, hr⟩ : ∃ r, (if form ⟨op, d, s, o, i⟩ then (0 : Int) else 9) = r := ⟨_, rfl⟩
  rw [hr]
  obtain ⟨b, hbf⟩ : ∃ b, decide (form ⟨op, d, s, o, i⟩) = b := ⟨_, rfl⟩
  have hrb : r = if b = true then 0 else 9 := by rw [← hr, ← hbf]; simp
  rw [hbf] at hfb
  clear hr hbf
  generalize has (shp op) 100 = u1 at *
  generalize has (shp op) 115 = u2 at *
  generalize has (shp op) 111 = u3 at *
  generalize has (shp op) 105 = u4 at *
  generalize cls op = c at *
  obtain ⟨b1, h1⟩ : ∃ b, (d != 0) = b := ⟨_, rfl⟩
  obtain ⟨b2, h2⟩ : ∃ b, (s != 0) = b := ⟨_, rfl⟩
  obtain ⟨b3, h3⟩ : ∃ b, (o != 0) = b := ⟨_, rfl⟩
  obtain ⟨b4, h4⟩ : ∃ b, (i != 0) = b := ⟨_, rfl⟩
  rw [h1, h2, h3, h4] at HFi hfb
  have HW := Lib.hid (fun w => with_any u1 u2 u3 u4 b1 b2 b3 b4 w)
  have HN := Lib.hid (fun w => eq_parts (u1 || b1) (u2 || b2) (u3 || b3) (u4 || b4) u1 u2 u3 u4 w)
  rw [← hfb] at HN
  clear h1 h2 h3 h4 hfb
  obtain ⟨v1, e1⟩ : ∃ v, (u1 || b1) = v := ⟨_, rfl⟩
  obtain ⟨v2, e2⟩ : ∃ v, (u2 || b2) = v := ⟨_, rfl⟩
  obtain ⟨v3, e3⟩ : ∃ v, (u3 || b3) = v := ⟨_, rfl⟩
  obtain ⟨v4, e4⟩ : ∃ v, (u4 || b4) = v := ⟨_, rfl⟩
  rw [e1, e2, e3, e4] at HW HN
  clear e1 e2 e3 e4 h hx hb
  go_enter Try.func37, Try.ntmps37
  go_wp2_with fail
  with_reducible refine (HU.out _).mono ?_
  rintro e w1 ⟨rfl, hc1⟩
  have HF1 := Lib.hid ((HF.out.ch hc1 (by simp)).ch ((Ch.refl [] w1).alloc (.cells #[.bool u1, .bool u2, .bool u3, .bool u4] 91)) (by simp))
  have HB1 := Lib.hid (Bo4.new w1 u1 u2 u3 u4 91)
  have HC1 := Lib.hid ((HC.out.trans hc1).alloc (.cells #[.bool u1, .bool u2, .bool u3, .bool u4] 91))
  clear hc1
  obtain ⟨w2, hw2⟩ : ∃ w2, w1.alloc (.cells #[.bool u1, .bool u2, .bool u3, .bool u4] 91) = w2 := ⟨_, rfl⟩
  rw [hw2] at HF1 HB1 HC1
  have HWn := Lib.hid hw2
  obtain ⟨a0, a1, a2, a3, a4⟩ := HF1.out
  simp only at a0 a1 a2 a3 a4
  rw [← hw2] at a0 a1 a2 a3 a4
  clear hw2
  go_wp2_with (first
    | (with_reducible refine (HY.out _).mono ?_; rintro e w' ⟨rfl, rfl⟩)
    | fail)
  rw [HWn.out] at a0 a1 a2 a3 a4 ⊢
  with_reducible refine (HBd.out _).mono ?_
  rintro e w3 ⟨rfl, hc3⟩
  have HF3 := Lib.hid (HF1.out.ch hc3 (by simp))
  have HB3 := Lib.hid (HB1.out.ch hc3 (by simp))
  have HC3 := Lib.hid (HC1.out.trans hc3)
  clear hc3 a0 a1 a2 a3 a4
  obtain ⟨G, f', hf1, hf2⟩ := worlds_of w3
  have hx0 : ∀ g : G, (f' g).cell? ⟨w.heap.size, 0, none⟩ = some (.int .i64 op) := fun g => (HF3.out.ch (hf1 g) (by simp)).c0
  have hx1 : ∀ g : G, (f' g).cell? ⟨w.heap.size, 1, none⟩ = some (.int .i64 d) := fun g => (HF3.out.ch (hf1 g) (by simp)).c1
  have hx2 : ∀ g : G, (f' g).cell? ⟨w.heap.size, 2, none⟩ = some (.int .i64 s) := fun g => (HF3.out.ch (hf1 g) (by simp)).c2
  have hx3 : ∀ g : G, (f' g).cell? ⟨w.heap.size, 3, none⟩ = some (.int .i64 o) := fun g => (HF3.out.ch (hf1 g) (by simp)).c3
  have hx4 : ∀ g : G, (f' g).cell? ⟨w.heap.size, 4, none⟩ = some (.int .i64 i) := fun g => (HF3.out.ch (hf1 g) (by simp)).c4
  have hy0 : ∀ g : G, (f' g).cell? ⟨w1.heap.size, 0, none⟩ = some (.bool u1) := fun g => (HB3.out.ch (hf1 g) (by simp)).c0
  have hy1 : ∀ g : G, (f' g).cell? ⟨w1.heap.size, 1, none⟩ = some (.bool u2) := fun g => (HB3.out.ch (hf1 g) (by simp)).c1
  have hy2 : ∀ g : G, (f' g).cell? ⟨w1.heap.size, 2, none⟩ = some (.bool u3) := fun g => (HB3.out.ch (hf1 g) (by simp)).c2
  have hy3 : ∀ g : G, (f' g).cell? ⟨w1.heap.size, 3, none⟩ = some (.bool u4) := fun g => (HB3.out.ch (hf1 g) (by simp)).c3
  have hne : Nonempty G := ⟨(hf2 w3 (Ch.refl _ _)).choose⟩
  have HX1 := Lib.hid hf1
  have HX2 := Lib.hid hf2
  have HQ := Ch.refl [] w3
  have hn := HN.out
  clear hf1 hf2
  go_wp2_with fail
  refine wp_region_worlds f' (by kernel_rfl) (by kernel_rfl) (HX2.out _ HQ.drew) ?_
  repeat (go_big_quiet_step (first
    | (with_reducible refine (HFi.out _).mono ?_; rintro r w' ⟨rfl, hcw⟩; exact ⟨rfl, HX2.out w' ((HX1.out _).trans hcw)⟩)
    | (with_reducible refine (HW.out _).mono ?_; rintro r w' ⟨rfl, hcw⟩; exact ⟨rfl, HX2.out w' ((HX1.out _).trans hcw)⟩)))
  refine wpQuiet_nil ?_
  rintro _ ⟨gz, rfl⟩
  have HZ := Lib.hid (HC3.out.trans (HX1.out gz))
  generalize f' gz = wz at *
  clear hx0 hx1 hx2 hx3 hx4 hy0 hy1 hy2 hy3 hne HQ hn
  cases b
  · go_wp2
    go_ret
    exact ⟨by first | rfl | (rw [hrb]; rfl), HZ.out⟩
  · go_wp2
    go_ret
    exact ⟨by first | rfl | (rw [hrb]; rfl), HZ.out⟩

theorem check_any {x : I5} (hx : Fit x) (w : World) : Calls Try.prog 37 #[iv x] w fun e w' => e = .returned (.int .i64 (chk x)) ∧ Ch [] w w' := by
  by_cases h : cls x.op = 0
  · have hc : chk x = 11 := by unfold chk; rw [if_pos h]
    rw [hc]; exact check_none hx h w
  · by_cases hb : inB x
    · have hc : chk x = if form x then 0 else 9 := by
        unfold chk; rw [if_neg h, if_neg (by simpa using hb)]
        by_cases hf : form x <;> simp [hf]
      rw [hc]; exact check_form hx h (decide_eq_true hb) w
    · have hc : chk x = 2 := by unfold chk; rw [if_neg h, if_pos hb]
      rw [hc]; exact check_out hx h (decide_eq_false hb) w
end Go.Proofs.Ytlffcccicpdnfaa

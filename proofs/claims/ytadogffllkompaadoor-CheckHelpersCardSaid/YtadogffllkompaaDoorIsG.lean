/-
  The document's Check.
-/
import Derived.Test.YtadogffllkompaaDoorIsF
import Derived.Test.YtadogffllkompaaDoorIsD
namespace Go.Proofs.YtadogffllkompaaDoor
open Go.RowKit

theorem rcheck_none {x : I5} (h : cls x.op = 0) (w : World) : Calls Tryd.prog 30 #[iv x] w fun e w' => e = .returned (.int .i64 11) ∧ Ch [] w w' := by
  obtain ⟨op, d, s, o, i⟩ := x
  have HK := Lib.hid (fun w => kind_any op w)
  unfold kindR at HK
  simp only at *
  rw [h] at HK
  generalize nm op = n at *
  generalize shp op = l at *
  have HC := Lib.hid ((Ch.refl [] w).alloc (.cells #[.int .i64 op, .int .i64 d, .int .i64 s, .int .i64 o, .int .i64 i] 35))
  have HF := Lib.hid (Five.new w ⟨op, d, s, o, i⟩ 35)
  clear h
  unfold iv
  go_enter Tryd.func30, Tryd.ntmps30
  go_wp2_with fail
  with_reducible refine (HK.out _).mono ?_
  rintro e w1 ⟨rfl, hc1⟩
  have HC1 := Lib.hid (HC.out.trans hc1)
  clear hc1
  go_wp2
  go_ret
  exact ⟨rfl, HC1.out⟩

theorem rcheck_out {x : I5} (h : cls x.op ≠ 0) (hb : ¬ inB x) (w : World) : Calls Tryd.prog 30 #[iv x] w fun e w' => e = .returned (.int .i64 2) ∧ Ch [] w w' := by
  obtain ⟨op, d, s, o, i⟩ := x
  have HK := Lib.hid (fun w => kind_any op w)
  unfold kindR at HK
  simp only at *
  have hcb : (cls op == 0) = false := by simpa using h
  obtain ⟨b1, h1⟩ : ∃ b, decide (d < 0) = b := ⟨_, rfl⟩
  obtain ⟨b2, h2⟩ : ∃ b, decide (9 < d) = b := ⟨_, rfl⟩
  obtain ⟨b3, h3⟩ : ∃ b, decide (s < 0) = b := ⟨_, rfl⟩
  obtain ⟨b4, h4⟩ : ∃ b, decide (9 < s) = b := ⟨_, rfl⟩
  obtain ⟨b5, h5⟩ : ∃ b, decide (o < -32768) = b := ⟨_, rfl⟩
  obtain ⟨b6, h6⟩ : ∃ b, decide (32767 < o) = b := ⟨_, rfl⟩
  obtain ⟨b7, h7⟩ : ∃ b, decide (i < -2147483648) = b := ⟨_, rfl⟩
  obtain ⟨b8, h8⟩ : ∃ b, decide (2147483647 < i) = b := ⟨_, rfl⟩
  have hall : (b1 || b2 || b3 || b4 || b5 || b6 || b7 || b8) = true := by
    rw [← h1, ← h2, ← h3, ← h4, ← h5, ← h6, ← h7, ← h8]
    simp only [Bool.or_eq_true, decide_eq_true_eq]
    unfold inB at hb
    simp only at hb
    omega
  have HA := Lib.hid hall
  clear hall hb
  generalize cls op = c at *
  generalize nm op = n at *
  generalize shp op = l at *
  have HC := Lib.hid ((Ch.refl [] w).alloc (.cells #[.int .i64 op, .int .i64 d, .int .i64 s, .int .i64 o, .int .i64 i] 35))
  have HF := Lib.hid (Five.new w ⟨op, d, s, o, i⟩ 35)
  clear h
  unfold iv
  go_enter Tryd.func30, Tryd.ntmps30
  go_wp2_with fail
  with_reducible refine (HK.out _).mono ?_
  rintro e w1 ⟨rfl, hc1⟩
  have HC1 := Lib.hid (HC.out.trans hc1)
  obtain ⟨a0, a1, a2, a3, a4⟩ := HF.out.ch hc1 (by simp)
  simp only at a0 a1 a2 a3 a4
  clear hc1
  go_wp2_with fail
  all_goals first
    | (go_ret; exact ⟨rfl, HC1.out⟩)
    | (exfalso; have hz := HA.out; clear HA HK HC HF HC1; simp_all)

theorem form_or (x : I5) : decide (form x) = !((x.d != 0 && !has (shp x.op) 100) || (x.s != 0 && !has (shp x.op) 115) || (x.o != 0 && !has (shp x.op) 111) || (x.i != 0 && !has (shp x.op) 105)) := by
  rw [Bool.eq_iff_iff, decide_eq_true_iff]
  unfold form
  cases has (shp x.op) 100 <;> cases has (shp x.op) 115 <;> cases has (shp x.op) 111 <;> cases has (shp x.op) 105 <;> simp [and_assoc]

theorem shp_short (op : Int) : (shp op).length < 1000 := by
  rcases Int.lt_or_le op 0 with h0 | h0
  · rw [(out_nm (.inl h0)).2.1]; simp
  · rcases Int.lt_or_le op 74 with h1 | h1
    · exact all74 (p := fun op => (shp op).length < 1000) (by decide +kernel) op h0 h1
    · rw [(out_nm (.inr h1)).2.1]; simp

set_option maxHeartbeats 4000000 in
theorem rcheck_form {x : I5} (h : cls x.op ≠ 0) (hb : inB x) (w : World) : Calls Tryd.prog 30 #[iv x] w fun e w' => e = .returned (.int .i64 (if form x then 0 else 9)) ∧ Ch [] w w' := by
  have hfo := form_or x
  obtain ⟨op, d, s, o, i⟩ := x
  have HK := Lib.hid (fun w => kind_any op w)
  have HU1 := Lib.hid (show ∀ w, Calls Tryd.prog 46 #[.string ⟨(shp op).toArray⟩, .int .u8 100] w fun e w' => e = .returned (.bool (has (shp op) 100)) ∧ w' = w from fun w => uses_any (shp op) 100 (shp_short op) w)
  have HU2 := Lib.hid (show ∀ w, Calls Tryd.prog 46 #[.string ⟨(shp op).toArray⟩, .int .u8 115] w fun e w' => e = .returned (.bool (has (shp op) 115)) ∧ w' = w from fun w => uses_any (shp op) 115 (shp_short op) w)
  have HU3 := Lib.hid (show ∀ w, Calls Tryd.prog 46 #[.string ⟨(shp op).toArray⟩, .int .u8 111] w fun e w' => e = .returned (.bool (has (shp op) 111)) ∧ w' = w from fun w => uses_any (shp op) 111 (shp_short op) w)
  have HU4 := Lib.hid (show ∀ w, Calls Tryd.prog 46 #[.string ⟨(shp op).toArray⟩, .int .u8 105] w fun e w' => e = .returned (.bool (has (shp op) 105)) ∧ w' = w from fun w => uses_any (shp op) 105 (shp_short op) w)
  unfold kindR at HK
  simp only at *
  have hcb : (cls op == 0) = false := by simpa using h
  unfold inB at hb
  simp only at hb
  have h1 : decide (d < 0) = false := decide_eq_false (by omega)
  have h2 : decide (9 < d) = false := decide_eq_false (by omega)
  have h3 : decide (s < 0) = false := decide_eq_false (by omega)
  have h4 : decide (9 < s) = false := decide_eq_false (by omega)
  have h5 : decide (o < -32768) = false := decide_eq_false (by omega)
  have h6 : decide (32767 < o) = false := decide_eq_false (by omega)
  have h7 : decide (i < -2147483648) = false := decide_eq_false (by omega)
  have h8 : decide (2147483647 < i) = false := decide_eq_false (by omega)
  obtain ⟨r, hr⟩ : ∃ r, (if form ⟨op, d, s, o, i⟩ then (0 : Int) else 9) = r := ⟨_, rfl⟩
  rw [hr]
  obtain ⟨b, hbf⟩ : ∃ b, decide (form ⟨op, d, s, o, i⟩) = b := ⟨_, rfl⟩
  have hrb : r = if b = true then 0 else 9 := by rw [← hr, ← hbf]; simp
  rw [hbf] at hfo
  clear hr hbf
  generalize has (shp op) 100 = u1 at *
  generalize has (shp op) 115 = u2 at *
  generalize has (shp op) 111 = u3 at *
  generalize has (shp op) 105 = u4 at *
  generalize cls op = c at *
  generalize nm op = n at *
  generalize shp op = l at *
  obtain ⟨b1, k1⟩ : ∃ b, (d != 0) = b := ⟨_, rfl⟩
  obtain ⟨b2, k2⟩ : ∃ b, (s != 0) = b := ⟨_, rfl⟩
  obtain ⟨b3, k3⟩ : ∃ b, (o != 0) = b := ⟨_, rfl⟩
  obtain ⟨b4, k4⟩ : ∃ b, (i != 0) = b := ⟨_, rfl⟩
  rw [k1, k2, k3, k4] at hfo
  rw [hfo] at hrb
  have HR := Lib.hid hrb
  clear hrb hfo b
  have HC := Lib.hid ((Ch.refl [] w).alloc (.cells #[.int .i64 op, .int .i64 d, .int .i64 s, .int .i64 o, .int .i64 i] 35))
  have HF := Lib.hid (Five.new w ⟨op, d, s, o, i⟩ 35)
  clear h hb
  unfold iv
  go_enter Tryd.func30, Tryd.ntmps30
  go_wp2_with fail
  with_reducible refine (HK.out _).mono ?_
  rintro e w1 ⟨rfl, hc1⟩
  have HC1 := Lib.hid (HC.out.trans hc1)
  obtain ⟨a0, a1, a2, a3, a4⟩ := HF.out.ch hc1 (by simp)
  simp only at a0 a1 a2 a3 a4
  clear hc1
  go_wp2_with (first
    | (with_reducible refine (HU1.out _).mono ?_; rintro e w' ⟨rfl, rfl⟩)
    | (with_reducible refine (HU2.out _).mono ?_; rintro e w' ⟨rfl, rfl⟩)
    | (with_reducible refine (HU3.out _).mono ?_; rintro e w' ⟨rfl, rfl⟩)
    | (with_reducible refine (HU4.out _).mono ?_; rintro e w' ⟨rfl, rfl⟩)
    | fail)
  all_goals
    go_ret
    refine ⟨?_, HC1.out⟩
    have hr := HR.out
    clear HK HC HF HC1 HR HU1 HU2 HU3 HU4
    subst hr
    first | rfl | (simp_all; done)
end Go.Proofs.YtadogffllkompaaDoor

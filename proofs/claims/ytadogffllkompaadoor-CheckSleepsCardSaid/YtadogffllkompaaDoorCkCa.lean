/-
  The tail of the function that yields: what is yielded.
-/
import Derived.Test.YtadogffllkompaaDoorCkC
namespace Go.Proofs.YtadogffllkompaaDoor
open Go.RowKit Go.Shelf

attribute [local go_sem] Oper.semAt_some

set_option maxRecDepth 100000 in
set_option maxHeartbeats 8000000 in
theorem behind1_tail (n l B1 B2 n₀ : Nat) {a : Option Addr} {len cap : Nat} (p q : Int) (J Jx : List Nat → World → Prop)
    (hY : ∀ pre x W, J pre W → pre.length < 2 → YieldAt Fence.wide (n - 1) Tryd.prog l #[.int .i64 ((x : Nat) : Int)] W fun e W' =>
      (e = .returned (.bool true) ∧ J (pre ++ [x]) W' ∧ Kc n₀ B1 B2 W W') ∨ (e = .returned (.bool false) ∧ Jx (pre ++ [x]) W'))
    (V : World) (hB1 : Boxed V B1 27 (.slice a len cap)) (hJV : J [] V) (Z : List Nat) (hZ : Z = one len p ++ (if q ≠ p then one len q else [])) {u3 u6 u7 u8 u9 u10 u11 u12 u13 u14 u15 u16 u17 u18 u19 u20 u21 u22 u23 u24 u25 u26 u27 u28 u29 u30 u31 u32 u33 u34 u35 u36 u37 u38 u39 u40 u41 u42 u43 u44 u45 : Value} :
    (codeOf [1, 1, 1, 1] (Tryd.f39.body.getD .skip)).wpIn Fence.wide n Tryd.prog (bodyPost Tryd.prog Tryd.f39 fun e W' => (∃ v, e = .returned v) ∧ (J Z W' ∨ ∃ pre, pre <+: Z ∧ Jx pre W'))
      { tmps := #[.func (.yield l) #[] #[], .pointer (some ⟨B1, 0, none⟩), .pointer (some ⟨B2, 0, none⟩), u3, .int .i64 p, .int .i64 q, u6, u7, u8, u9, u10, u11, u12, u13, u14, u15, u16, u17, u18, u19, u20, u21, u22, u23, u24, u25, u26, u27, u28, u29, u30, u31, u32, u33, u34, u35, u36, u37, u38, u39, u40, u41, u42, u43, u44, u45, undef, undef, undef, undef, undef, undef, undef, undef, undef, undef, undef, undef, undef, undef, undef, undef, undef, undef, undef, undef, undef, undef, undef], defers := [] } V := by
  have HT := Lib.hid (fun z W => there_any len cap a z W)
  have HY := Lib.hid hY
  have HZ := Lib.hid hZ
  have HJV := Lib.hid hJV
  have d1 := hB1.cell
  clear hY hZ hJV
  have hw : ∀ f, Fence.wide.fn f := fun _ => trivial
  have hd : Fence.wide.depth = none := rfl
  simp only [codeOf, Tryd.f39, Option.getD_some]
  by_cases hqp : q = p
  · have hqp := hqp.symm
    subst hqp
    have HTp := Lib.hid (fun W => HT.out p W)
    have HTq := HTp
    by_cases hb1 : inn len p = true
    · obtain ⟨x, hpx⟩ : ∃ x : Nat, p = (x : Int) := ⟨p.toNat, by unfold inn at hb1; rw [decide_eq_true_eq] at hb1; omega⟩
      have HPx := Lib.hid hpx
      have HLs := Lib.hid (show Z = [x] by rw [HZ.out, if_neg (fun h => h rfl), List.append_nil]; unfold one; rw [if_pos hb1, hpx, Int.toNat_natCast])
      rw [hb1] at HTp HTq
      clear hpx hb1
      obtain ⟨fn, tmps, assign, body, hy, hR⟩ := HY.out [] x V HJV.out (by simp)
      rw [← HPx.out] at hy
      gi_wp2_with (first
        | (gi_at_call 40; with_reducible refine (callsIn_wide.2 (HTp.out _)).mono ?_; rintro e w9 ⟨rfl, rfl⟩)
        | (gi_at_call 40; with_reducible refine (callsIn_wide.2 (HTq.out _)).mono ?_; rintro e w9 ⟨rfl, rfl⟩)
        | fail)
      refine hR.mono ?_
      rintro e W3 (⟨rfl, hJ3, hk3⟩ | ⟨rfl, hJx3⟩)
      · have HJ3 := Lib.hid hJ3
        clear hJ3 hk3 hy hR
        gi_wp2_with (first
          | (gi_at_call 40; with_reducible refine (callsIn_wide.2 (HTp.out _)).mono ?_; rintro e w9 ⟨rfl, rfl⟩)
          | (gi_at_call 40; with_reducible refine (callsIn_wide.2 (HTq.out _)).mono ?_; rintro e w9 ⟨rfl, rfl⟩)
          | fail)
        first | go_end0 | refine bodyPost_ret (results_none rfl _ _ _) rfl ?_
        exact ⟨⟨_, rfl⟩, .inl (by rw [HLs.out]; exact HJ3.out)⟩
      · have HX3 := Lib.hid hJx3
        clear hJx3 hy hR
        gi_wp2_with (first
          | (gi_at_call 40; with_reducible refine (callsIn_wide.2 (HTp.out _)).mono ?_; rintro e w9 ⟨rfl, rfl⟩)
          | (gi_at_call 40; with_reducible refine (callsIn_wide.2 (HTq.out _)).mono ?_; rintro e w9 ⟨rfl, rfl⟩)
          | fail)
        first | go_end0 | refine bodyPost_ret (results_none rfl _ _ _) rfl ?_
        exact ⟨⟨_, rfl⟩, .inr ⟨[x], by rw [HLs.out]; exact ⟨_, rfl⟩, HX3.out⟩⟩
    · have hf1 : inn len p = false := by simpa using hb1
      have HLs := Lib.hid (show Z = [] by rw [HZ.out, if_neg (fun h => h rfl), List.append_nil]; unfold one; rw [if_neg hb1])
      rw [hf1] at HTp HTq
      clear hb1
      gi_wp2_with (first
        | (gi_at_call 40; with_reducible refine (callsIn_wide.2 (HTp.out _)).mono ?_; rintro e w9 ⟨rfl, rfl⟩)
        | (gi_at_call 40; with_reducible refine (callsIn_wide.2 (HTq.out _)).mono ?_; rintro e w9 ⟨rfl, rfl⟩)
        | fail)
      first | go_end0 | refine bodyPost_ret (results_none rfl _ _ _) rfl ?_
      exact ⟨⟨_, rfl⟩, .inl (by rw [HLs.out]; exact HJV.out)⟩
  · skip
    have HTp := Lib.hid (fun W => HT.out p W)
    have HTq := Lib.hid (fun W => HT.out q W)
    have hqb : (q != p) = true := by simpa using hqp
    by_cases hb1 : inn len p = true
    · obtain ⟨x, hpx⟩ : ∃ x : Nat, p = (x : Int) := ⟨p.toNat, by unfold inn at hb1; rw [decide_eq_true_eq] at hb1; omega⟩
      have HPx := Lib.hid hpx
      have hone1 : one len p = [x] := by unfold one; rw [if_pos hb1, hpx, Int.toNat_natCast]
      rw [hb1] at HTp
      clear hpx hb1
      by_cases hb2 : inn len q = true
      · obtain ⟨y, hqy⟩ : ∃ y : Nat, q = (y : Int) := ⟨q.toNat, by unfold inn at hb2; rw [decide_eq_true_eq] at hb2; omega⟩
        have HQy := Lib.hid hqy
        have hone2 : one len q = [y] := by unfold one; rw [if_pos hb2, hqy, Int.toNat_natCast]
        rw [hb2] at HTq
        clear hqy hb2
        have HLs := Lib.hid (show Z = [x, y] by rw [HZ.out, if_pos hqp, hone1, hone2]; rfl)
        clear hone1 hone2 hqp
        obtain ⟨fn, tmps, assign, body, hy, hR⟩ := HY.out [] x V HJV.out (by simp)
        rw [← HPx.out] at hy
        gi_wp2_with (first
          | (gi_at_call 40; with_reducible refine (callsIn_wide.2 (HTp.out _)).mono ?_; rintro e w9 ⟨rfl, rfl⟩)
          | (gi_at_call 40; with_reducible refine (callsIn_wide.2 (HTq.out _)).mono ?_; rintro e w9 ⟨rfl, rfl⟩)
          | fail)
        refine hR.mono ?_
        rintro e W3 (⟨rfl, hJ3, hk3⟩ | ⟨rfl, hJx3⟩)
        · have HJ3 := Lib.hid hJ3
          have hB3 := hk3.2.1 _ hB1
          have d4 := hB3.cell
          clear hJ3 hk3 hy hR
          obtain ⟨fn2, tmps2, assign2, body2, hy2, hR2⟩ := HY.out [x] y W3 HJ3.out (by simp)
          rw [← HQy.out] at hy2
          gi_wp2_with (first
            | (gi_at_call 40; with_reducible refine (callsIn_wide.2 (HTp.out _)).mono ?_; rintro e w9 ⟨rfl, rfl⟩)
            | (gi_at_call 40; with_reducible refine (callsIn_wide.2 (HTq.out _)).mono ?_; rintro e w9 ⟨rfl, rfl⟩)
            | fail)
          refine hR2.mono ?_
          rintro e W4 (⟨rfl, hJ4, hk4⟩ | ⟨rfl, hJx4⟩)
          · have HJ4 := Lib.hid hJ4
            clear hJ4 hy2 hR2 hk4
            gi_wp2_with (first
              | (gi_at_call 40; with_reducible refine (callsIn_wide.2 (HTp.out _)).mono ?_; rintro e w9 ⟨rfl, rfl⟩)
              | (gi_at_call 40; with_reducible refine (callsIn_wide.2 (HTq.out _)).mono ?_; rintro e w9 ⟨rfl, rfl⟩)
              | fail)
            first | go_end0 | refine bodyPost_ret (results_none rfl _ _ _) rfl ?_
            exact ⟨⟨_, rfl⟩, .inl (by rw [HLs.out]; exact HJ4.out)⟩
          · have HX4 := Lib.hid hJx4
            clear hJx4 hy2 hR2
            gi_wp2_with (first
              | (gi_at_call 40; with_reducible refine (callsIn_wide.2 (HTp.out _)).mono ?_; rintro e w9 ⟨rfl, rfl⟩)
              | (gi_at_call 40; with_reducible refine (callsIn_wide.2 (HTq.out _)).mono ?_; rintro e w9 ⟨rfl, rfl⟩)
              | fail)
            first | go_end0 | refine bodyPost_ret (results_none rfl _ _ _) rfl ?_
            exact ⟨⟨_, rfl⟩, .inr ⟨[x, y], by rw [HLs.out]; exact List.prefix_refl _, HX4.out⟩⟩
        · have HX3 := Lib.hid hJx3
          clear hJx3 hy hR
          gi_wp2_with (first
            | (gi_at_call 40; with_reducible refine (callsIn_wide.2 (HTp.out _)).mono ?_; rintro e w9 ⟨rfl, rfl⟩)
            | (gi_at_call 40; with_reducible refine (callsIn_wide.2 (HTq.out _)).mono ?_; rintro e w9 ⟨rfl, rfl⟩)
            | fail)
          first | go_end0 | refine bodyPost_ret (results_none rfl _ _ _) rfl ?_
          exact ⟨⟨_, rfl⟩, .inr ⟨[x], by rw [HLs.out]; exact ⟨_, rfl⟩, HX3.out⟩⟩
      · have hf2 : inn len q = false := by simpa using hb2
        have hone2 : one len q = [] := by unfold one; rw [if_neg hb2]
        rw [hf2] at HTq
        clear hb2
        have HLs := Lib.hid (show Z = [x] by rw [HZ.out, if_pos hqp, hone1, hone2]; rfl)
        clear hone1 hone2 hqp
        obtain ⟨fn, tmps, assign, body, hy, hR⟩ := HY.out [] x V HJV.out (by simp)
        rw [← HPx.out] at hy
        gi_wp2_with (first
          | (gi_at_call 40; with_reducible refine (callsIn_wide.2 (HTp.out _)).mono ?_; rintro e w9 ⟨rfl, rfl⟩)
          | (gi_at_call 40; with_reducible refine (callsIn_wide.2 (HTq.out _)).mono ?_; rintro e w9 ⟨rfl, rfl⟩)
          | fail)
        refine hR.mono ?_
        rintro e W3 (⟨rfl, hJ3, hk3⟩ | ⟨rfl, hJx3⟩)
        · have HJ3 := Lib.hid hJ3
          have hB3 := hk3.2.1 _ hB1
          have d4 := hB3.cell
          clear hJ3 hk3 hy hR
          gi_wp2_with (first
            | (gi_at_call 40; with_reducible refine (callsIn_wide.2 (HTp.out _)).mono ?_; rintro e w9 ⟨rfl, rfl⟩)
            | (gi_at_call 40; with_reducible refine (callsIn_wide.2 (HTq.out _)).mono ?_; rintro e w9 ⟨rfl, rfl⟩)
            | fail)
          first | go_end0 | refine bodyPost_ret (results_none rfl _ _ _) rfl ?_
          exact ⟨⟨_, rfl⟩, .inl (by rw [HLs.out]; exact HJ3.out)⟩
        · have HX3 := Lib.hid hJx3
          clear hJx3 hy hR
          gi_wp2_with (first
            | (gi_at_call 40; with_reducible refine (callsIn_wide.2 (HTp.out _)).mono ?_; rintro e w9 ⟨rfl, rfl⟩)
            | (gi_at_call 40; with_reducible refine (callsIn_wide.2 (HTq.out _)).mono ?_; rintro e w9 ⟨rfl, rfl⟩)
            | fail)
          first | go_end0 | refine bodyPost_ret (results_none rfl _ _ _) rfl ?_
          exact ⟨⟨_, rfl⟩, .inr ⟨[x], by rw [HLs.out]; exact ⟨_, rfl⟩, HX3.out⟩⟩
    · have hf1 : inn len p = false := by simpa using hb1
      have hone1 : one len p = [] := by unfold one; rw [if_neg hb1]
      rw [hf1] at HTp
      clear hb1
      by_cases hb2 : inn len q = true
      · obtain ⟨y, hqy⟩ : ∃ y : Nat, q = (y : Int) := ⟨q.toNat, by unfold inn at hb2; rw [decide_eq_true_eq] at hb2; omega⟩
        have HQy := Lib.hid hqy
        have hone2 : one len q = [y] := by unfold one; rw [if_pos hb2, hqy, Int.toNat_natCast]
        rw [hb2] at HTq
        clear hqy hb2
        have HLs := Lib.hid (show Z = [y] by rw [HZ.out, if_pos hqp, hone1, hone2]; rfl)
        clear hone1 hone2 hqp
        obtain ⟨fn2, tmps2, assign2, body2, hy2, hR2⟩ := HY.out [] y V HJV.out (by simp)
        rw [← HQy.out] at hy2
        gi_wp2_with (first
          | (gi_at_call 40; with_reducible refine (callsIn_wide.2 (HTp.out _)).mono ?_; rintro e w9 ⟨rfl, rfl⟩)
          | (gi_at_call 40; with_reducible refine (callsIn_wide.2 (HTq.out _)).mono ?_; rintro e w9 ⟨rfl, rfl⟩)
          | fail)
        refine hR2.mono ?_
        rintro e W4 (⟨rfl, hJ4, hk4⟩ | ⟨rfl, hJx4⟩)
        · have HJ4 := Lib.hid hJ4
          clear hJ4 hy2 hR2 hk4
          gi_wp2_with (first
            | (gi_at_call 40; with_reducible refine (callsIn_wide.2 (HTp.out _)).mono ?_; rintro e w9 ⟨rfl, rfl⟩)
            | (gi_at_call 40; with_reducible refine (callsIn_wide.2 (HTq.out _)).mono ?_; rintro e w9 ⟨rfl, rfl⟩)
            | fail)
          first | go_end0 | refine bodyPost_ret (results_none rfl _ _ _) rfl ?_
          exact ⟨⟨_, rfl⟩, .inl (by rw [HLs.out]; exact HJ4.out)⟩
        · have HX4 := Lib.hid hJx4
          clear hJx4 hy2 hR2
          gi_wp2_with (first
            | (gi_at_call 40; with_reducible refine (callsIn_wide.2 (HTp.out _)).mono ?_; rintro e w9 ⟨rfl, rfl⟩)
            | (gi_at_call 40; with_reducible refine (callsIn_wide.2 (HTq.out _)).mono ?_; rintro e w9 ⟨rfl, rfl⟩)
            | fail)
          first | go_end0 | refine bodyPost_ret (results_none rfl _ _ _) rfl ?_
          exact ⟨⟨_, rfl⟩, .inr ⟨[y], by rw [HLs.out]; exact List.prefix_refl _, HX4.out⟩⟩
      · have hf2 : inn len q = false := by simpa using hb2
        have hone2 : one len q = [] := by unfold one; rw [if_neg hb2]
        rw [hf2] at HTq
        clear hb2
        have HLs := Lib.hid (show Z = [] by rw [HZ.out, if_pos hqp, hone1, hone2]; rfl)
        clear hone1 hone2 hqp
        gi_wp2_with (first
          | (gi_at_call 40; with_reducible refine (callsIn_wide.2 (HTp.out _)).mono ?_; rintro e w9 ⟨rfl, rfl⟩)
          | (gi_at_call 40; with_reducible refine (callsIn_wide.2 (HTq.out _)).mono ?_; rintro e w9 ⟨rfl, rfl⟩)
          | fail)
        first | go_end0 | refine bodyPost_ret (results_none rfl _ _ _) rfl ?_
        exact ⟨⟨_, rfl⟩, .inl (by rw [HLs.out]; exact HJV.out)⟩
end Go.Proofs.YtadogffllkompaaDoor

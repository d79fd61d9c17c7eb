/-
  The function that yields, whole.
-/
import Derived.Test.YtadogffllkompaaDoorCkCa
namespace Go.Proofs.YtadogffllkompaaDoor
open Go.RowKit Go.Shelf

attribute [local go_sem] Oper.semAt_some

set_option maxRecDepth 100000 in
set_option maxHeartbeats 4000000 in
theorem behind1_next (n l B1 B2 n₀ : Nat) {b off : Nat} {len cap k : Nat} {L : List I5} (hL : L.length = len) (hlen : len ≤ 1000) (hk : k < len) (h73 : (ia L k).op ≠ 73) (hfit : Fit (ia L k)) (J Jx : List Nat → World → Prop) (hJ : ∀ pre W m, J pre W → J pre (W.drewN m))
    (hY : ∀ pre x W, J pre W → pre.length < 2 → YieldAt Fence.wide (n - 1) Tryd.prog l #[.int .i64 ((x : Nat) : Int)] W fun e W' =>
      (e = .returned (.bool true) ∧ J (pre ++ [x]) W' ∧ Kc n₀ B1 B2 W W') ∨ (e = .returned (.bool false) ∧ Jx (pre ++ [x]) W'))
    (W : World) (hI : ∀ i (hi : i < L.length), FiveO W b (off + i * 5) L[i]) (hb1 : Boxed W B1 27 (.slice (some ⟨b, off, none⟩) len cap)) (hb2 : Boxed W B2 3 (.int .i64 (k : Int))) (h0 : J [] W) :
    CallsIn Fence.wide n Tryd.prog 39 #[.func (.yield l) #[] #[], .pointer (some ⟨B1, 0, none⟩), .pointer (some ⟨B2, 0, none⟩)] W fun e W' => (∃ v, e = .returned v) ∧
      (J (prL len (ia L k) k) W' ∨ ∃ pre, pre <+: prL len (ia L k) k ∧ Jx pre W') := by
  have HTk := Lib.hid (fun W => there_any len cap (some ⟨b, off, none⟩) (k : Int) W)
  have h : inn len (k : Int) = true := by unfold inn; simp; omega
  rw [h] at HTk
  have HG := Lib.hid (fun w (h : ∀ i (hi : i < L.length), FiveO w b (off + i * 5) L[i]) => target_any (cap := cap) k hL hk h)
  have HCl := Lib.hid (fun w => class_any hfit.op.1 hfit.op.2 w)
  have H0 := Lib.hid h0
  have HY := Lib.hid hY
  have HJ := Lib.hid hJ
  have HI := Lib.hid hI
  have HB1 := Lib.hid hb1
  have HB2 := Lib.hid hb2
  have c1 := hb1.cell
  have c2 := hb2.cell
  have c3 := (hI k (by omega)).c0
  rw [ia_at (by omega)] at c3
  have hkn : (k : Int) < (len : Int) := by omega
  have hw3 : IntKind.i64.wrap ((k : Int) + 1) = (k : Int) + 1 := by rw [IntKind.wrap_i64]; omega
  have e73 : ((ia L k).op == 73) = false := by simpa using h73
  obtain ⟨p, hp⟩ : ∃ p, min (loV (ia L k) k) (hiV (ia L k) k) = p := ⟨_, rfl⟩
  obtain ⟨q, hq⟩ : ∃ q, max (loV (ia L k) k) (hiV (ia L k) k) = q := ⟨_, rfl⟩
  have hR : prL len (ia L k) k = one len p ++ (if q ≠ p then one len q else []) := by
    unfold prL; rw [if_neg h73, hp, hq]
  obtain ⟨Z, hZ⟩ : ∃ Z, Z = prL len (ia L k) k := ⟨_, rfl⟩
  rw [← hZ]
  have HZ := Lib.hid (hZ.trans hR)
  clear h h0 hb1 hb2 hY hI h73 hJ hR hZ
  have hw : ∀ f, Fence.wide.fn f := fun _ => trivial
  have hd : Fence.wide.depth = none := rfl
  refine callsIn_of_wp Tryd.func39 rfl trivial ?_ rfl
  simp only [Tryd.ntmps39, List.size_toArray, List.length_cons, List.length_nil, Nat.reduceAdd, Nat.reduceSub, Array.replicate_succ, Array.replicate_zero, List.push_toArray, List.append_toArray, List.nil_append, List.cons_append]
  refine wpIn_seq_k (fun K0 hK0 => ?_)
  have HK0 := Lib.hid hK0
  clear hK0
  gi_wp2_with (first
    | (gi_at_call 40; refine (callsIn_wide.2 (HTk.out _)).mono ?_; rintro e w' ⟨rfl, rfl⟩)
    | fail)
  refine HK0.out _ _ ?_
  clear HK0
  refine wpIn_seq_k (fun K0 hK0 => ?_)
  have HK0 := Lib.hid hK0
  clear hK0
  rw [wpIn_wide]
  go_quiet (fail)
  simp only [Exit.then]
  obtain ⟨V, hV⟩ : ∃ V, w'.drewN nq = V := ⟨_, rfl⟩
  have hI' : ∀ i (hi : i < L.length), FiveO V b (off + i * 5) L[i] := by subst hV; exact fun i hi => ⟨(HI.out i hi).c0, (HI.out i hi).c1, (HI.out i hi).c2, (HI.out i hi).c3, (HI.out i hi).c4⟩
  have HGV := Lib.hid (HG.out V hI')
  have hB1 : Boxed V B1 27 (.slice (some ⟨b, off, none⟩) len cap) := by subst hV; exact HB1.out
  have hB2 : Boxed V B2 3 (.int .i64 (k : Int)) := by subst hV; exact HB2.out
  have hJV : J [] V := by subst hV; exact HJ.out _ _ nq H0.out
  have d1 := hB1.cell
  have d2 := hB2.cell
  have d3 : V.cell? ⟨b, off + k * 5, none⟩ = some (.int .i64 (ia L k).op) := by subst hV; exact c3
  rw [hV]
  have HTail := Lib.hid (fun (u3 u6 u7 u8 u9 u10 u11 u12 u13 u14 u15 u16 u17 u18 u19 u20 u21 u22 u23 u24 u25 u26 u27 u28 u29 u30 u31 u32 u33 u34 u35 u36 u37 u38 u39 u40 u41 u42 u43 u44 u45 : Value) => behind1_tail n l B1 B2 n₀ (cap := cap) p q J Jx HY.out V hB1 hJV Z HZ.out (u3 := u3) (u6 := u6) (u7 := u7) (u8 := u8) (u9 := u9) (u10 := u10) (u11 := u11) (u12 := u12) (u13 := u13) (u14 := u14) (u15 := u15) (u16 := u16) (u17 := u17) (u18 := u18) (u19 := u19) (u20 := u20) (u21 := u21) (u22 := u22) (u23 := u23) (u24 := u24) (u25 := u25) (u26 := u26) (u27 := u27) (u28 := u28) (u29 := u29) (u30 := u30) (u31 := u31) (u32 := u32) (u33 := u33) (u34 := u34) (u35 := u35) (u36 := u36) (u37 := u37) (u38 := u38) (u39 := u39) (u40 := u40) (u41 := u41) (u42 := u42) (u43 := u43) (u44 := u44) (u45 := u45))
  clear hV c1 c2 c3 HI HB1 HB2 H0 HG hI' HTk hJV HY HZ HJ
  have HP := Lib.hid hp
  have HQ := Lib.hid hq
  clear hp hq
  unfold loV hiV at HP HQ
  generalize (ia L k).op = op at *
  generalize tg (k : Int) (ia L k).o = t at *
  generalize cls op = c at *
  clear hfit
  refine HK0.out _ _ ?_
  clear HK0
  refine wpIn_seq_k (fun K0 hK0 => ?_)
  have HK0 := Lib.hid hK0
  clear hK0
  by_cases hc : c = 2
  · subst hc
    by_cases h32 : op = 32
    · subst h32
      have ht : p = t := by have h := HP.out; rw [if_pos rfl, if_pos ⟨rfl, rfl⟩] at h; omega
      have hqp : p = q := by have h := HQ.out; rw [if_pos rfl, if_pos ⟨rfl, rfl⟩] at h; omega
      subst hqp
      subst ht
      clear HP HQ e73
      gi_wp2_with (first
        | (gi_at_call 41; refine (callsIn_wide.2 (HCl.out _)).mono ?_; rintro e w9 ⟨rfl, rfl⟩)
        | (gi_at_call 42; refine (callsIn_wide.2 HGV.out).mono ?_; rintro e w9 ⟨rfl, rfl⟩)
        | fail)
      refine HK0.out _ _ ?_
      clear HK0
      refine wpIn_seq_k (fun K0 hK0 => ?_)
      have HK0 := Lib.hid hK0
      clear hK0
      gi_wp2_with fail
      refine HK0.out _ _ ?_
      exact HTail.out _ _ _ _ _ _ _ _ _ _ _ _ _ _ _ _ _ _ _ _ _ _ _ _ _ _ _ _ _ _ _ _ _ _ _ _ _ _ _ _ _
    · have e32 : (op == 32) = false := by simpa using h32
      have hp : min t ((k : Int) + 1) = p := by have h := HP.out; rw [if_pos rfl, if_neg (fun h => h32 h.2)] at h; exact h
      have hq : max t ((k : Int) + 1) = q := by have h := HQ.out; rw [if_pos rfl, if_neg (fun h => h32 h.2)] at h; exact h
      clear HP HQ e73 h32
      rcases Int.lt_trichotomy t ((k : Int) + 1) with hlt | heq | hgt
      · have hk1 : (k : Int) + 1 = q := by omega
        have ht : p = t := by omega
        subst ht
        rw [hk1] at hlt
        have hn : ¬ q < p := by omega
        clear hp hq
        gi_wp2_with (first
          | (gi_at_call 41; refine (callsIn_wide.2 (HCl.out _)).mono ?_; rintro e w9 ⟨rfl, rfl⟩)
          | (gi_at_call 42; refine (callsIn_wide.2 HGV.out).mono ?_; rintro e w9 ⟨rfl, rfl⟩)
          | fail)
        refine HK0.out _ _ ?_
        clear HK0
        refine wpIn_seq_k (fun K0 hK0 => ?_)
        have HK0 := Lib.hid hK0
        clear hK0
        gi_wp2_with fail
        refine HK0.out _ _ ?_
        exact HTail.out _ _ _ _ _ _ _ _ _ _ _ _ _ _ _ _ _ _ _ _ _ _ _ _ _ _ _ _ _ _ _ _ _ _ _ _ _ _ _ _ _
      · have hk1 : (k : Int) + 1 = p := by omega
        have ht : p = t := by omega
        have hqp : p = q := by omega
        subst ht
        subst hqp
        clear hp hq heq
        gi_wp2_with (first
          | (gi_at_call 41; refine (callsIn_wide.2 (HCl.out _)).mono ?_; rintro e w9 ⟨rfl, rfl⟩)
          | (gi_at_call 42; refine (callsIn_wide.2 HGV.out).mono ?_; rintro e w9 ⟨rfl, rfl⟩)
          | fail)
        refine HK0.out _ _ ?_
        clear HK0
        refine wpIn_seq_k (fun K0 hK0 => ?_)
        have HK0 := Lib.hid hK0
        clear hK0
        gi_wp2_with fail
        refine HK0.out _ _ ?_
        exact HTail.out _ _ _ _ _ _ _ _ _ _ _ _ _ _ _ _ _ _ _ _ _ _ _ _ _ _ _ _ _ _ _ _ _ _ _ _ _ _ _ _ _
      · have hk1 : (k : Int) + 1 = p := by omega
        have ht : q = t := by omega
        subst ht
        rw [hk1] at hgt
        have hn : ¬ q < p := by omega
        clear hp hq
        gi_wp2_with (first
          | (gi_at_call 41; refine (callsIn_wide.2 (HCl.out _)).mono ?_; rintro e w9 ⟨rfl, rfl⟩)
          | (gi_at_call 42; refine (callsIn_wide.2 HGV.out).mono ?_; rintro e w9 ⟨rfl, rfl⟩)
          | fail)
        refine HK0.out _ _ ?_
        clear HK0
        refine wpIn_seq_k (fun K0 hK0 => ?_)
        have HK0 := Lib.hid hK0
        clear hK0
        gi_wp2_with fail
        refine HK0.out _ _ ?_
        exact HTail.out _ _ _ _ _ _ _ _ _ _ _ _ _ _ _ _ _ _ _ _ _ _ _ _ _ _ _ _ _ _ _ _ _ _ _ _ _ _ _ _ _
  · have ec : (c == 2) = false := by simpa using hc
    have hp : (k : Int) + 1 = p := by have h := HP.out; rw [if_neg hc, if_neg (fun h => hc h.1)] at h; omega
    have hqp : p = q := by have h := HQ.out; rw [if_neg hc, if_neg (fun h => hc h.1)] at h; omega
    subst hqp
    clear HP HQ e73 hc
    gi_wp2_with (first
      | (gi_at_call 41; refine (callsIn_wide.2 (HCl.out _)).mono ?_; rintro e w9 ⟨rfl, rfl⟩)
      | (gi_at_call 42; refine (callsIn_wide.2 HGV.out).mono ?_; rintro e w9 ⟨rfl, rfl⟩)
      | fail)
    refine HK0.out _ _ ?_
    clear HK0
    refine wpIn_seq_k (fun K0 hK0 => ?_)
    have HK0 := Lib.hid hK0
    clear hK0
    gi_wp2_with fail
    refine HK0.out _ _ ?_
    exact HTail.out _ _ _ _ _ _ _ _ _ _ _ _ _ _ _ _ _ _ _ _ _ _ _ _ _ _ _ _ _ _ _ _ _ _ _ _ _ _ _ _ _
end Go.Proofs.YtadogffllkompaaDoor

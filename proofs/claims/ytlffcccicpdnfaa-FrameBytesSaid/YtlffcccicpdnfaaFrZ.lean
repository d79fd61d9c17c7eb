/-
  The document's Write. (Written by gen/rwrite18.py.)
-/
import Derived.Test.YtlffcccicpdnfaaFrY
namespace Go.Proofs.Ytlffcccicpdnfaa
open Go.RowKit Go.BigFrame

attribute [local go_sem] Oper.semAt_some

theorem leN_drop {l : List Nat} {k : Nat} (hk : k < l.length) : leN (l.drop k) = l[k] + 256 * leN (l.drop (k + 1)) := by
  rw [List.drop_eq_getElem_cons hk]; rfl
theorem leN_64 {l : List Nat} (h : ∀ x ∈ l, x < 256) (h8 : l.length ≤ 8) : leN l < 18446744073709551616 := by
  have h1 := leN_lt l h
  have h2 : 256 ^ l.length ≤ 256 ^ 8 := Nat.pow_le_pow_right (by decide) h8
  have h3 : 256 ^ 8 = 18446744073709551616 := by decide
  omega

set_option maxRecDepth 10000 in
set_option maxHeartbeats 8000000 in
theorem rwrite_bad {w : World} {F : FV} {a : Int} {n cap : Nat} (hn : n ≤ 1000) (hno : ¬ wrOk a n) (v : Option Addr) :
    Calls Try.prog 16 #[.agg (fl F).toArray, .int .i64 a, .slice v n cap] w fun e w' => e = .returned (.tuple #[.agg (fl F).toArray, .int .i64 1]) ∧ Ch [] w w' := by
  obtain ⟨R, hR⟩ : ∃ R, w.heap.size = R := ⟨_, rfl⟩
  obtain ⟨W, hW⟩ : ∃ W, w.alloc (.cells (fl F).toArray 32) = W := ⟨_, rfl⟩
  obtain ⟨W2, hW2⟩ : ∃ W2, W.alloc (.cells (fl F0).toArray 32) = W2 := ⟨_, rfl⟩
  have hz := z90b W
  rw [← hW] at hz
  have hs : W.heap.size = R + 1 := by rw [← hW, ← hR]; simp
  have HR := Lib.hid (show FR W2 R F by rw [← hW2, ← hW, ← hR]; exact (FR.new w F _).quiet ((Ch.refl [] _).alloc _))
  have HS := Lib.hid (show FR W2 (R + 1) F0 by rw [← hW2, ← hs]; exact FR.new W F0 _)
  have HC := Lib.hid (show Ch [] w W2 by rw [← hW2, ← hW]; exact ((Ch.refl [] w).alloc _).alloc _)
  have HE := Lib.hid (show FR (W2.setCells (R + 1) 0 (fl F)) (R + 1) F ∧ Ch [] w (W2.setCells (R + 1) 0 (fl F)) from ⟨HS.out.setAll F, HC.out.fresh (chCells W2 (R + 1) _ 0) (by simp; omega)⟩)
  have HW := Lib.hid (show (w.alloc (.cells (fl F).toArray 32)).alloc (.cells (fl F0).toArray 32) = W2 by rw [← hW2, ← hW])
  have HRs := Lib.hid hR
  obtain ⟨r, hr⟩ : ∃ r, n / 8 = r := ⟨_, rfl⟩
  obtain ⟨p, hp⟩ : ∃ p, n % 8 = p := ⟨_, rfl⟩
  have q1 : (n : Int).tmod 8 = (p : Int) := by rw [Int.tmod_eq_emod_of_nonneg (by omega)]; omega
  have q2 : (n : Int).tdiv 8 = (r : Int) := by rw [Int.tdiv_eq_ediv_of_nonneg (by omega)]; omega
  have q3 : IntKind.i64.wrap (r : Int) = (r : Int) := by rw [IntKind.wrap_i64]; omega
  have hcond : 0 < p ∨ (p = 0 ∧ a < 0) ∨ (p = 0 ∧ 0 ≤ a ∧ 8 < a) ∨ (∃ s : Nat, p = 0 ∧ 0 ≤ a ∧ a ≤ 8 ∧ IntKind.i64.wrap (8 - a) = (s : Int) ∧ s < r) := by
    unfold wrOk hol at hno
    by_cases h0 : 0 < p
    · exact .inl h0
    · by_cases h1 : a < 0
      · exact .inr (.inl ⟨by omega, h1⟩)
      · by_cases h2 : 8 < a
        · exact .inr (.inr (.inl ⟨by omega, by omega, h2⟩))
        · exact .inr (.inr (.inr ⟨(8 - a).toNat, by omega, by omega, by omega, by rw [IntKind.wrap_i64]; omega, by rw [hr] at hno; omega⟩))
  clear hR hW hW2 hno hr hp hn hs
  rcases hcond with h0 | ⟨h0, h1⟩ | ⟨h0, h1, h2⟩ | ⟨s, h0, h1, h2, h3, h4⟩
  · have q0 : ((p : Int) != 0) = true := by simp; omega
    clear h0
    go_enter Try.func16, Try.ntmps16
    go_wp2_with (first | ((with_reducible show wpList _ _ _ (Oper.mk _ (Op.load 32 _) _ _ _ _ :: _) _ _); rw [HRs.out, HW.out]; refine wpList_readF rfl HR.out (by rfl) (by rfl) ?_) | ((with_reducible show wpList _ _ _ (Oper.mk _ (Op.store 32 _ _) _ _ _ _ :: _) _ _); refine wpList_writeF rfl HS.out F (by rfl) (by rfl) (by rfl) ?_) | fail)
    have HL := Lib.hid (load_frame HE.out.1)
    refine bodyPost_ret (results_two rfl rfl HL.out) rfl ?_
    exact ⟨rfl, HE.out.2⟩
  all_goals
    go_enter Try.func16, Try.ntmps16
    go_wp2_with (first | ((with_reducible show wpList _ _ _ (Oper.mk _ (Op.load 32 _) _ _ _ _ :: _) _ _); rw [HRs.out, HW.out]; refine wpList_readF rfl HR.out (by rfl) (by rfl) ?_) | ((with_reducible show wpList _ _ _ (Oper.mk _ (Op.store 32 _ _) _ _ _ _ :: _) _ _); refine wpList_writeF rfl HS.out F (by rfl) (by rfl) (by rfl) ?_) | fail)
    have HL := Lib.hid (load_frame HE.out.1)
    refine bodyPost_ret (results_two rfl rfl HL.out) rfl ?_
    exact ⟨rfl, HE.out.2⟩

set_option maxRecDepth 10000 in
set_option maxHeartbeats 8000000 in
theorem rwrite_ok {w : World} {F : FV} {k r n cap : Nat} (hkr : k + r ≤ 8) (hnr : n = 8 * r) {v : Option Addr} {l : List Nat} (hl : l.length = n) (hb : ∀ x ∈ l, x < 256) (hA : BA w v l) :
    Calls Try.prog 16 #[.agg (fl F).toArray, .int .i64 (k : Int), .slice v n cap] w fun e w' => e = .returned (.tuple #[.agg (fl (wrF F (10 + k) l r)).toArray, .int .i64 0]) ∧ Ch [] w w' := by
  obtain ⟨R, hR⟩ : ∃ R, w.heap.size = R := ⟨_, rfl⟩
  obtain ⟨W, hW⟩ : ∃ W, w.alloc (.cells (fl F).toArray 32) = W := ⟨_, rfl⟩
  obtain ⟨W2, hW2⟩ : ∃ W2, W.alloc (.cells (fl F0).toArray 32) = W2 := ⟨_, rfl⟩
  have hz := z90b W
  rw [← hW] at hz
  have hs : W.heap.size = R + 1 := by rw [← hW, ← hR]; simp
  have HR := Lib.hid (show FR W2 R F by rw [← hW2, ← hW, ← hR]; exact (FR.new w F _).quiet ((Ch.refl [] _).alloc _))
  have HS := Lib.hid (show FR W2 (R + 1) F0 by rw [← hW2, ← hs]; exact FR.new W F0 _)
  have HC := Lib.hid (show Ch [] w W2 by rw [← hW2, ← hW]; exact ((Ch.refl [] w).alloc _).alloc _)
  have HW := Lib.hid (show (w.alloc (.cells (fl F).toArray 32)).alloc (.cells (fl F0).toArray 32) = W2 by rw [← hW2, ← hW])
  have HRs := Lib.hid hR
  have q1 : (n : Int).tmod 8 = 0 := by rw [Int.tmod_eq_emod_of_nonneg (by omega)]; omega
  have q2 : (n : Int).tdiv 8 = (r : Int) := by rw [Int.tdiv_eq_ediv_of_nonneg (by omega)]; omega
  have q3 : IntKind.i64.wrap (r : Int) = (r : Int) := by rw [IntKind.wrap_i64]; omega
  have hk0 : (0 : Int) ≤ (k : Int) := by omega
  have hk8 : (k : Int) ≤ 8 := by omega
  obtain ⟨s, hs8⟩ : ∃ s : Nat, 8 - k = s := ⟨_, rfl⟩
  have hsub : IntKind.i64.wrap (8 - (k : Int)) = (s : Int) := by rw [IntKind.wrap_i64]; omega
  have hms : ¬ s < r := by omega
  obtain ⟨kk, hkk⟩ : ∃ kk, 10 + k = kk := ⟨_, rfl⟩
  have HKk := Lib.hid (show IntKind.i64.wrap (10 + (k : Int)) = (kk : Int) by rw [IntKind.wrap_i64]; omega)
  have HKr := Lib.hid (show kk + r ≤ 18 ∧ r ≤ 8 by omega)
  rw [hkk]
  have HL := Lib.hid hl
  have HB := Lib.hid hb
  have HA := Lib.hid hA
  have HNr := Lib.hid hnr
  clear hR hW hW2 hs hs8 hkk hkr hnr hl hb hA
  go_enter Try.func16, Try.ntmps16
  go_wp2_with fail
  rw [HRs.out, HW.out]
  clear hz q1 q2 q3 hk0 hk8 hsub hms
  go_loopw [9] (fun iv wr => ∃ i : Nat, iv = .int .i64 (i : Int) ∧ i ≤ r ∧ FR wr R (wrF F kk l i) ∧ FR wr (R + 1) F0 ∧ Ch [] w wr) (fun iv _ => r - (intOf iv).toNat)
  case atStart => exact ⟨0, rfl, Nat.zero_le _, HR.out, HS.out, HC.out⟩
  case round =>
    obtain ⟨i, rfl, hi, hF, hS, hc⟩ := hrel
    have HFi := Lib.hid hF
    have HSi := Lib.hid hS
    have HCi := Lib.hid hc
    by_cases hir : i < r
    · have hir' : (i : Int) < (r : Int) := by omega
      have hseg : ((l.drop (8 * i)).take 8).length = 8 := by rw [List.length_take, List.length_drop, HL.out, HNr.out]; omega
      obtain ⟨S, hSe⟩ : ∃ S, (l.drop (8 * i)).take 8 = S := ⟨_, rfl⟩
      rw [hSe] at hseg
      have hSb : ∀ x ∈ S, x < 256 := fun x hx => HB.out x (List.mem_of_mem_drop (List.mem_of_mem_take (hSe ▸ hx)))
      rcases HA.out with h0 | ⟨B, off, rfl, hcl⟩
      · exfalso; have := HL.out; rw [h0] at this; simp at this; have := HNr.out; omega
      have HCl := Lib.hid (fun j (hj : j < S.length) => show wr.cell? ⟨B, off + (8 * i + j), none⟩ = some (.int .u8 (S[j] : Int)) from by
        have h1 : 8 * i + j < l.length := by rw [HL.out, HNr.out]; omega
        have h2 := hcl (8 * i + j) h1
        have h3 := (hc.cell (p := ⟨B, off + (8 * i + j), none⟩) (cell_lt h2) (by simp)).trans h2
        rw [h3]
        have h4 : S[j] = l[8 * i + j] := by subst hSe; simp
        rw [h4])
      have HSb := Lib.hid hSb
      have H8 := Lib.hid hseg
      have HSe := Lib.hid hSe
      obtain ⟨ii, hii⟩ : ∃ ii, kk + i = ii := ⟨_, rfl⟩
      obtain ⟨p, hp⟩ : ∃ p, 8 * i = p := ⟨_, rfl⟩
      have HII := Lib.hid hii
      have HP := Lib.hid hp
      have ewi : IntKind.i64.wrap ((i : Int) + 1) = ((i + 1 : Nat) : Int) := by rw [IntKind.wrap_i64]; have := HKr.out; omega
      have HEw := Lib.hid ewi
      have HPn := Lib.hid (show p + 8 ≤ n by have := HNr.out; omega)
      clear hcl hc hF hS hSb hseg hSe hir hii hp ewi
      go_wp2_with fail
      go_loopw [10, 11] (fun nv kv wq => ∃ (t m : Nat) (z : Int), kv = .int .i64 z ∧ z = 7 - (t : Int) ∧ t ≤ 8 ∧ nv = .int .u64 (m : Int) ∧ m = leN (S.drop (8 - t)) ∧ wr = wq) (fun _ kv _ => (intOf kv + 1).toNat)
      case atStart => exact ⟨0, 0, 7, rfl, rfl, by decide, rfl, by rw [List.drop_of_length_le (by rw [H8.out]; decide)]; rfl, rfl⟩
      case round =>
        obtain ⟨t, m, z, rfl, hz, ht, rfl, hm, rfl⟩ := hrel
        by_cases ht8 : t < 8
        · have hz0 : 0 ≤ z := by omega
          obtain ⟨j, hj⟩ : ∃ j, 7 - t = j := ⟨_, rfl⟩
          have hjS : j < S.length := by rw [H8.out]; omega
          have hcell := HCl.out j hjS
          have hx := HSb.out _ (List.getElem_mem hjS)
          have hst := leN_drop hjS
          have hml : m < 256 ^ 7 := by
            rw [hm]
            have h1 := leN_lt (S.drop (8 - t)) (fun y hy => HSb.out y (List.mem_of_mem_drop hy))
            have h2 : 256 ^ (S.drop (8 - t)).length ≤ 256 ^ 7 := Nat.pow_le_pow_right (by decide) (by rw [List.length_drop, H8.out]; omega)
            omega
          rw [show j + 1 = 8 - t by omega, ← hm] at hst
          generalize S[j] = x at *
          rw [show (256 : Nat) ^ 7 = 72057594037927936 by decide] at hml
          rw [HP.out] at hcell
          obtain ⟨m2, hm2⟩ : ∃ m2, m * 256 + x = m2 := ⟨_, rfl⟩
          obtain ⟨ix, hix⟩ : ∃ ix, p + j = ix := ⟨_, rfl⟩
          rw [hix] at hcell
          have hpn := HPn.out
          have hr8 := HKr.out.2
          have hpi := HP.out
          have e1 : IntKind.u64.wrap ((m : Int) * 256) = (m : Int) * 256 := by rw [IntKind.wrap_u64]; omega
          have e2 : IntKind.i64.wrap (8 * (i : Int)) = (p : Int) := by rw [IntKind.wrap_i64]; omega
          have e3 : IntKind.i64.wrap ((p : Int) + z) = (ix : Int) := by rw [IntKind.wrap_i64]; omega
          have e4 : IntKind.u64.wrap (x : Int) = (x : Int) := by rw [IntKind.wrap_u64]; omega
          have e5 : IntKind.u64.wrap ((m : Int) * 256 + (x : Int)) = (m2 : Int) := by rw [IntKind.wrap_u64]; omega
          have e6 : IntKind.i64.wrap (z - 1) = z - 1 := by rw [IntKind.wrap_i64]; omega
          have e7 : (ix : Int) < (n : Int) := by omega
          have HM := Lib.hid (show m2 = leN (S.drop (8 - (t + 1))) by rw [show 8 - (t + 1) = j by omega, hst, ← hm2]; omega)
          have HZ := Lib.hid (show z - 1 = 7 - ((t + 1 : Nat) : Int) ∧ t + 1 ≤ 8 by omega)
          have hlt : ix < n := by omega
          clear hst hm hml hm2 hix hj hjS hz ht hx hpn hr8 hpi ht8
          go_wp2_with fail
          go_roundw
          case rel => exact ⟨t + 1, m2, z - 1, rfl, HZ.out.1, HZ.out.2, rfl, HM.out, trivial⟩
          case measure => simp [intOf]; omega
        · obtain rfl : t = 8 := by omega
          have hz0 : ¬ 0 ≤ z := by omega
          have HNu := Lib.hid (fun W => rnum_any m W)
          obtain ⟨X, hX⟩ : ∃ X, num m = X := ⟨_, rfl⟩
          rw [hX] at HNu
          unfold vv at HNu
          have HM := Lib.hid (show num (leN ((l.drop (8 * i)).take 8)) = X by rw [HSe.out, ← hX, hm]; rfl)
          have e1 := HKk.out
          have hii := HII.out
          have hkr := HKr.out
          have e2 : IntKind.i64.wrap ((kk : Int) + (i : Int)) = (ii : Int) := by rw [IntKind.wrap_i64]; omega
          have i18 : (ii : Int) < 18 := by omega
          have ewi := HEw.out
          clear hX hm hz ht ht8 hii hkr
          go_wp2_with fail
          with_reducible refine (HNu.out _).mono ?_
          rintro e w3 ⟨rfl, hc3⟩
          have hF3 := HFi.out.quiet hc3
          have h18 : ii < 18 := by omega
          obtain ⟨y0, y1, y2, y3, y4⟩ := hF3.a ii h18
          have yf := hF3.fr
          have HF4 := Lib.hid (show FR (st5 w3 R (ii * 5) X) R (wrF F kk l (i + 1)) from by
            have := hF3.set h18 X
            rw [← HM.out, ← HII.out] at this ⊢
            exact this)
          have hcs := st5_ch w3 R (ii * 5) X
          have HS4 := Lib.hid ((HSi.out.quiet hc3).ch hcs (by simp))
          have HC4 := Lib.hid ((HCi.out.trans hc3).fresh hcs (by have := HRs.out; simp; omega))
          clear hF3 hc3 hcs HNu h18
          go_wp2_with fail
          go_roundw
          case rel => exact ⟨i + 1, by go_num, by have := HKr.out; omega, HF4.out, HS4.out, HC4.out⟩
          case measure => simp [intOf]; omega
    · obtain rfl : i = r := by omega
      have HE := Lib.hid (show FR (wr.setCells (R + 1) 0 (fl (wrF F kk l i))) (R + 1) (wrF F kk l i) ∧ Ch [] w (wr.setCells (R + 1) 0 (fl (wrF F kk l i))) from ⟨hS.setAll _, hc.fresh (chCells wr (R + 1) _ 0) (by have := HRs.out; simp; omega)⟩)
      clear hir hc hF hS hi
      go_wp2_with (first | ((with_reducible show wpList _ _ _ (Oper.mk _ (Op.load 32 _) _ _ _ _ :: _) _ _); refine wpList_readF rfl HFi.out (by rfl) (by rfl) ?_) | ((with_reducible show wpList _ _ _ (Oper.mk _ (Op.store 32 _ _) _ _ _ _ :: _) _ _); refine wpList_writeF rfl HSi.out (wrF F kk l i) (by rfl) (by rfl) (by rfl) ?_) | fail)
      have HLd := Lib.hid (load_frame HE.out.1)
      refine bodyPost_ret (results_two rfl rfl HLd.out) rfl ?_
      exact ⟨rfl, HE.out.2⟩
theorem rwrite_any {w : World} {F : FV} {a : Int} {n cap : Nat} (hn : n ≤ 1000) {v : Option Addr} {l : List Nat} (hl : l.length = n) (hb : ∀ x ∈ l, x < 256) (hA : BA w v l) :
    Calls Try.prog 16 #[.agg (fl F).toArray, .int .i64 a, .slice v n cap] w fun e w' => e = .returned (.tuple #[.agg (fl (wrT F a l)).toArray, .int .i64 (wrE a n)]) ∧ Ch [] w w' := by
  by_cases hok : wrOk a n
  · have e1 : wrE a n = 0 := by unfold wrE; rw [if_pos hok]
    have e2 : wrT F a l = wrF F (10 + a.toNat) l (n / 8) := by unfold wrT; rw [hl, if_pos hok]
    rw [e1, e2]
    obtain ⟨h8, h0, h1, h2⟩ := hok
    obtain ⟨k, rfl⟩ : ∃ k : Nat, a = (k : Int) := ⟨a.toNat, by omega⟩
    rw [Int.toNat_natCast]
    exact rwrite_ok (by omega) (by omega) hl hb hA
  · have e1 : wrE a n = 1 := by unfold wrE; rw [if_neg hok]
    have e2 : wrT F a l = F := by unfold wrT; rw [hl, if_neg hok]
    rw [e1, e2]
    exact rwrite_bad hn hok v
end Go.Proofs.Ytlffcccicpdnfaa

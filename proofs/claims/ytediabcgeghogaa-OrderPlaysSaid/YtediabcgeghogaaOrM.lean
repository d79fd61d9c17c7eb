/-
  The law OrderMany, walked.
-/
import Derived.Test.YtediabcgeghogaaOrK
namespace Go.Proofs.Ytediabcgeghogaa
open Go.RowKit oI

attribute [local go_sem] Oper.semAt_some

theorem KAt_notIn {w : World} {a : Option Addr} {zs : List Int} (h : KAt w a zs) {S : Nat} (hS : w.heap.size ≤ S) : NotIn a zs [S + 1, S] := by
  rcases h with h | ⟨b, off, rfl, h⟩
  · exact .inl h
  · cases zs with
    | nil => exact .inl rfl
    | cons k r =>
      refine .inr fun x hx => ?_
      cases hx
      have := cell_lt (h 0 k rfl)
      simp only at this
      simp
      omega
theorem KAt_take {w : World} {a : Option Addr} {zs : List Int} (h : KAt w a zs) (n : Nat) : KAt w a (zs.take n) := by
  rcases h with rfl | ⟨b, off, rfl, h⟩
  · exact .inl (by simp)
  · refine .inr ⟨b, off, rfl, fun j k hj => h j k ?_⟩
    rw [List.getElem?_take] at hj
    split at hj
    · exact hj
    · cases hj

set_option maxRecDepth 100000 in
set_option maxHeartbeats 2000000 in
theorem many_law (r : Int) (a : Option Addr) (cap : Nat) (ls : List Int) (w : World) (hls : KAt w a ls) (hwf : ∀ k ∈ ls, wfK k) (hl : ls.length ≤ cap) (_ : cap ≤ 9223372036854775807) :
    Calls Try.prog 4 #[.int .i64 r, .slice a ls.length cap] w fun e w' => e = .returned (.bool true) ∧ Ch [] w w' := by
  have u0 : 0 ≤ IntKind.u64.wrap r ∧ IntKind.u64.wrap r < 18446744073709551616 := by rw [IntKind.wrap_u64]; omega
  generalize hg0 : IntKind.u64.wrap r = U0 at u0
  obtain ⟨u00, u01⟩ := u0
  obtain ⟨room, hr0, hr1, hr2⟩ : ∃ room : Nat, 1 + U0 % 64 = (room : Int) ∧ 1 ≤ room ∧ room ≤ 64 := ⟨(1 + U0 % 64).toNat, by omega⟩
  obtain ⟨zs, hzs⟩ : ∃ zs, zs = ls.take 100 := ⟨_, rfl⟩
  obtain ⟨n, hn⟩ : ∃ n, n = zs.length := ⟨_, rfl⟩
  have hn1 : n = min ls.length 100 := by rw [hn, hzs, List.length_take]; omega
  obtain ⟨len, hlen⟩ : ∃ len, len = ls.length := ⟨_, rfl⟩
  have hz := Lib.hid (show KAt w a zs by rw [hzs]; exact KAt_take hls 100)
  have HW := Lib.hid (show ∀ k ∈ zs, wfK k from fun k hk => hwf k (List.mem_of_mem_take (hzs ▸ hk)))
  rw [← hlen] at hn1 hl ⊢
  have hmin : min (len : Int) 100 = (n : Int) := by omega
  have hmin2 : (if (100 : Int) < (len : Int) then (100 : Int) else (len : Int)) = (n : Int) := by split <;> omega
  have hncap : n ≤ cap := by omega
  have hn100 : n ≤ 100 := by omega
  have hd0 : decide ((n : Int) < 0) = false := by simp
  obtain ⟨S, hS⟩ : ∃ S, w.heap.size = S := ⟨_, rfl⟩
  have HNI := Lib.hid (KAt_notIn hz.out (Nat.le_of_eq hS))
  have HNew := Lib.hid (ol_new room w w S hS (Ch.refl _ _) hr1 hr2)
  have HNn := Lib.hid hn
  clear hls hwf hlen hn1 hS hn hzs hl
  go_enter Try.func4, Try.ntmps4
  go_wp2_with fail
  with_reducible refine HNew.out.mono ?_
  rintro e w1 ⟨rfl, ho1, hc1, hz1⟩
  have HO1 := Lib.hid ho1
  have HC1 := Lib.hid hc1
  have hz1' := Lib.hid hz1
  have HZ1 := Lib.hid (hz.out.ch hc1 (by unfold NotIn; simp))
  have HR0 := Lib.hid (show RI w1 w1.heap.size (.slice none 0 0) [] from ⟨rfl, .inl ⟨rfl, rfl⟩⟩)
  clear ho1 hc1 hz1 HNew hmin hmin2 hg0 hr0 u00 u01
  go_wp2_with fail
  go_loopw [7, 8, 9] (fun vm we vi wr => ∃ (i e : Nat) (X : List Int), i ≤ n ∧ vi = .int .i64 (i : Int) ∧ we = .int .i64 (e : Int) ∧ RI wr w1.heap.size vm X ∧ X.Nodup ∧ X.length ≤ room ∧ Ch [] w1 wr ∧ tchs room [] zs = (if e = 0 then tchs room X (zs.drop i) else (X, e)))
    (fun _ _ vi _ => n - (intOf vi).toNat)
  case atStart => exact ⟨0, 0, [], Nat.zero_le _, rfl, rfl, HR0.out, List.nodup_nil, by simp, Ch.refl _ _, by simp⟩
  case round =>
    obtain ⟨i, e, X, hi, rfl, rfl, hr, hnd, hXl, hc, hq⟩ := hrel
    have HR := Lib.hid hr
    have HNd := Lib.hid hnd
    have HC := Lib.hid hc
    have HQ := Lib.hid hq
    clear hr hnd hc hq
    by_cases hgo : i < n ∧ e = 0
    · obtain ⟨hlt, rfl⟩ := hgo
      obtain ⟨k, hk⟩ : ∃ k, zs[i]? = some k := ⟨_, List.getElem?_eq_getElem (by rw [← HNn.out]; exact hlt)⟩
      have HT := Lib.hid (HQ.out.trans ((if_pos rfl).trans (tchs_drop hk)))
      rcases HZ1.out.ch HC.out (by unfold NotIn; simp) with h0 | ⟨b, off, rfl, hcell⟩
      · rw [h0] at hk; simp at hk
      have hck := hcell i k hk
      clear hcell hk
      have hb0 : (0 : Int) ≤ (i : Int) := by omega
      have hb1 : (i : Int) < (n : Int) := by omega
      have HTo := Lib.hid (rtouch_any (k := k) (room := room) HR.out HNd.out (by omega) HC.out.size)
      have HNd2 := Lib.hid (tch_nodup (room := room) HNd.out k)
      have HXl2 := Lib.hid (tch_len (room := room) HNd.out hXl k)
      obtain ⟨X2, e2, ht⟩ : ∃ X2 e2, tch room X k = (X2, e2) := ⟨_, _, rfl⟩
      rw [ht] at HTo HNd2 HXl2 HT
      simp only at HTo HNd2 HXl2 HT
      clear ht
      go_wp2_with fail
      with_reducible refine HTo.out.mono ?_
      rintro e w2 ⟨v', rfl, hr2', hc2⟩
      have HR2 := Lib.hid hr2'
      have HC2 := Lib.hid (HC.out.trans hc2)
      clear hr2' hc2
      go_wp2
      go_roundw
      case rel => exact ⟨i + 1, e2, X2, by omega, by go_num, rfl, HR2.out, HNd2.out, HXl2.out, HC2.out, HT.out⟩
      case measure => simp [intOf]; omega
    · have HE := Lib.hid (show tchs room [] zs = (X, e) by
        rw [HQ.out]
        split
        · rename_i e0
          subst e0
          have : i = n := by
            by_cases h : i < n
            · exact absurd ⟨h, rfl⟩ hgo
            · omega
          subst this
          rw [List.drop_of_length_le (by rw [← HNn.out]; exact Nat.le_refl _)]
          rfl
        · rfl)
      obtain ⟨am, cm, rfl⟩ := own_form HR.out
      by_cases hlt : i < n
      · have he0 : ((e : Int) == 0) = false := by simp; exact fun h => hgo ⟨hlt, h⟩
        clear hgo
        go_wp2_with fail
        with_reducible refine (known_any _).mono ?_
        rintro e' w4 ⟨rfl, hc4⟩
        have hc14 := HC.out.trans hc4
        have HRm := Lib.hid (HR.out.quiet hc4)
        have ho4 := HO1.out.quiet hc14
        have HTc := ho4.touch a cap zs (HZ1.out.ch hc14 (by unfold NotIn; simp)) HNI.out HW.out (by rw [← HNn.out]; omega) (X := X) (e := (e : Int)) (by rw [HE.out]) (by rw [HE.out])
        rw [← HNn.out] at HTc
        have HTc := Lib.hid HTc
        clear hc4 hc14 ho4
        go_wp2_with fail
        with_reducible refine HTc.out.mono ?_
        rintro e' w5 ⟨rfl, ho5, hc5⟩
        have HRm5 := Lib.hid (HRm.out.ch hc5 (by have := hz1'.out; simp; omega))
        have HO5 := Lib.hid ho5
        have HL := Lib.hid ho5.list
        have hee : ((e : Int) == (e : Int)) = true := by simp
        clear ho5 hc5 HTc
        go_wp2_with fail
        with_reducible refine HL.out.mono ?_
        rintro e' w6 ⟨v6, rfl, hr6, hc6⟩
        obtain ⟨a6, c6, rfl⟩ := own_form hr6
        have hm6 := HRm5.out.quiet hc6
        have HS := Lib.hid (same_eq a6 am c6 cm X w6 (by omega) (own_KAt hr6).2 (own_KAt hm6).2)
        have HE6 := Lib.hid (HO5.out.ch.trans hc6)
        clear hr6 hc6 hm6 hee HL
        go_wp2_with fail
        with_reducible refine HS.out.mono ?_
        rintro e' w7 ⟨rfl, nq, rfl⟩
        go_wp2
        go_ret
        exact ⟨rfl, HE6.out.drewN nq⟩
      · clear hgo
        go_wp2_with fail
        with_reducible refine (known_any _).mono ?_
        rintro e' w4 ⟨rfl, hc4⟩
        have hc14 := HC.out.trans hc4
        have HRm := Lib.hid (HR.out.quiet hc4)
        have ho4 := HO1.out.quiet hc14
        have HTc := ho4.touch a cap zs (HZ1.out.ch hc14 (by unfold NotIn; simp)) HNI.out HW.out (by rw [← HNn.out]; omega) (X := X) (e := (e : Int)) (by rw [HE.out]) (by rw [HE.out])
        rw [← HNn.out] at HTc
        have HTc := Lib.hid HTc
        clear hc4 hc14 ho4
        go_wp2_with fail
        with_reducible refine HTc.out.mono ?_
        rintro e' w5 ⟨rfl, ho5, hc5⟩
        have HRm5 := Lib.hid (HRm.out.ch hc5 (by have := hz1'.out; simp; omega))
        have HO5 := Lib.hid ho5
        have HL := Lib.hid ho5.list
        have hee : ((e : Int) == (e : Int)) = true := by simp
        clear ho5 hc5 HTc
        go_wp2_with fail
        with_reducible refine HL.out.mono ?_
        rintro e' w6 ⟨v6, rfl, hr6, hc6⟩
        obtain ⟨a6, c6, rfl⟩ := own_form hr6
        have hm6 := HRm5.out.quiet hc6
        have HS := Lib.hid (same_eq a6 am c6 cm X w6 (by omega) (own_KAt hr6).2 (own_KAt hm6).2)
        have HE6 := Lib.hid (HO5.out.ch.trans hc6)
        clear hr6 hc6 hm6 hee HL
        go_wp2_with fail
        with_reducible refine HS.out.mono ?_
        rintro e' w7 ⟨rfl, nq, rfl⟩
        go_wp2
        go_ret
        exact ⟨rfl, HE6.out.drewN nq⟩
end Go.Proofs.Ytediabcgeghogaa

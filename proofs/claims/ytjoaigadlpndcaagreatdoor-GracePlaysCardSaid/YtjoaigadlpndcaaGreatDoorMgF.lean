/-
  A scan: Poll.
  Scans: nil ones; a scan of a law's own; a reader's deed (Do); the chapter's example holds.
-/
import Derived.WalkMore
import Derived.Test.YtjoaigadlpndcaaGreatDoorMgE
import Derived.Test.YtjoaigadlpndcaaGreatDoorMgD
namespace Go.Proofs.YtjoaigadlpndcaaGreatDoor
open Go.RowKit

theorem poll_end {n : Int} {l : List Nat} {k : Nat} (hk : k ≤ l.length) (hn : (k : Int) ≤ n ∨ k = 0) (h : ¬ (k : Int) < n ∨ l.length ≤ k) : lookN n l = k := by
  unfold lookN
  omega

set_option maxHeartbeats 2000000 in
theorem poll_any {w : World} {c : Nat} {pt : Value} {t : Int} {p : Nat → Bool} {P : Nat} (h : Sn w c pt t p P) {f : Int → Int} (hf : Sns w c pt f) (hP : P < 64) (hT : Mk.Tab w) (hg : 0 ≠ c) (n : Int) :
    Calls Tryz.prog 70 #[.pointer (some ⟨c, 0, none⟩), .int .i64 n] w fun e w' => e = .returned (.int .i64 (cntN (pollL (fun r => endB t (f r)) P p n) 64 : Int)) ∧
      Sn w' c pt t (pollL (fun r => endB t (f r)) P p n) (pollP P p n) ∧ Ch [c] w w' := by
  obtain ⟨E, hE⟩ : ∃ E : Int → Bool, E = fun r => endB t (f r) := ⟨_, rfl⟩
  rw [← hE]
  unfold pollL pollP
  obtain ⟨O, hO⟩ : ∃ O, O = ordN P p := ⟨_, rfl⟩
  rw [← hO]
  have H := Lib.hid h
  have HF := Lib.hid hf
  have HE := Lib.hid hE
  have HO := Lib.hid hO
  have HT := Lib.hid hT
  have HG := Lib.hid hg
  have HP := Lib.hid hP
  have hol : O.length ≤ 64 := by rw [hO, ord_len hP]; exact cntN_le p 64
  have HA0 := Lib.hid (show mskN (ahd O 0) = mskN p from by rw [hO]; exact ahd_zero hP)
  obtain ⟨N, hN⟩ : ∃ N, N = O.length := ⟨_, rfl⟩
  rw [← hN] at hol
  have HN := Lib.hid hN
  have c2 := h.c2
  clear h hf hE hO hT hg hP hN
  go_enter Tryz.func70, Tryz.ntmps70
  go_wp2_with fail
  go_step3
  go_wp2_with fail
  go_step3
  go_wp2_with fail
  go_loopw [5, 15] (fun m i wr => ∃ k : Nat, k ≤ N ∧ i = .int .i64 (k : Int) ∧ ((k : Int) ≤ n ∨ k = 0) ∧ m = .int .u64 ((mskN (ahd O k) : Nat) : Int) ∧ Sn wr c pt t (lft E p O k) (plc P O k) ∧ Ch [c] w wr) (fun _ i _ => N - (intOf i).toNat)
  case atStart => exact ⟨0, Nat.zero_le _, rfl, .inr rfl, by rw [HA0.out], by rw [lft_zero]; exact H.out, Ch.refl _ _⟩
  case round =>
    obtain ⟨k, hk, rfl, hkn, rfl, hs, hc⟩ := hrel
    clear c2
    have HT2 := Lib.hid (tab_ch HT.out hc (by simpa using HG.out))
    have hpl := plc_lt HP.out O k
    obtain ⟨Pk, hPk⟩ : ∃ Pk, Pk = plc P O k := ⟨_, rfl⟩
    rw [← hPk] at hs hpl
    have HAr := Lib.hid (Mk.around_any (mskN (ahd O k)) (mskN_lt _) (Pk : Int) wr HT2.out)
    have c2 := hs.c2
    have c3 := hs.c3
    have HS := Lib.hid hs
    have HC := Lib.hid hc
    have HPk := Lib.hid hPk
    clear hs hc hPk
    by_cases hlt : k < N
    · obtain ⟨r, hr⟩ : ∃ r, O[k]? = some r := ⟨_, List.getElem?_eq_getElem (by rw [← HN.out]; exact hlt)⟩
      have hr64 : r < 64 := by rw [HO.out] at hr; exact ((ord_mem HP.out).1 (List.mem_iff_getElem?.2 ⟨k, hr⟩)).1
      have har := ahd_around (p := p) HP.out (k := k) (r := r) (by rw [← HO.out]; exact hr)
      rw [← HO.out, ← HPk.out] at har
      rw [har.1, har.2] at HAr
      have hst := ahd_step (p := p) HP.out (k := k) (r := r) (by rw [← HO.out]; exact hr)
      rw [← HO.out] at hst
      have HSt := Lib.hid hst
      have hls := lft_step (e := E) (p := p) hr
      have HLs := Lib.hid hls
      obtain ⟨Q, hQ⟩ : ∃ Q : Nat, Q = (r + 1) % 64 := ⟨_, rfl⟩
      have HPl := Lib.hid (show plc P O (k + 1) = Q by show (O[k]?.getD 0 + 1) % 64 = Q; rw [hQ, hr]; rfl)
      have hw1 : IntKind.i64.wrap ((r : Int) + 1) = (r : Int) + 1 := IntWalk.i64_in _ (by omega)
      have htm : Int.tmod ((r : Int) + 1) 64 = (Q : Int) := by rw [Int.tmod_eq_emod_of_nonneg (by omega)]; omega
      have hwq : IntKind.i64.wrap (Q : Int) = (Q : Int) := IntWalk.i64_in _ (by omega)
      obtain ⟨A, hA⟩ : ∃ A, A = ahd O k := ⟨_, rfl⟩
      obtain ⟨L, hL⟩ : ∃ L, L = lft E p O k := ⟨_, rfl⟩
      rw [← hA] at HAr HSt
      rw [← hL] at HS HLs c2
      rw [← hA]
      have HLk := Lib.hid hL
      clear har hst hls hr hQ hA hL
      obtain ⟨MA, hMA⟩ : ∃ M, mskN A = M := ⟨_, rfl⟩
      obtain ⟨MB, hMB⟩ : ∃ M, mskN (rmv A (r : Int)) = M := ⟨_, rfl⟩
      obtain ⟨ML, hML⟩ : ∃ M, mskN L = M := ⟨_, rfl⟩
      rw [hMA] at HAr ⊢
      rw [hML] at c2
      have HMA := Lib.hid hMA
      have HMB := Lib.hid hMB
      have HML := Lib.hid hML
      clear hMA hMB hML
      by_cases hn : (k : Int) < n
      · go_wp2_with fail
        with_reducible refine HAr.out.mono ?_
        rintro e w1 ⟨rfl, hb1⟩
        have hc1 : Ch [c] wr w1 := .of_below hb1
        have HC1 := Lib.hid (HC.out.trans hc1)
        have HS1 := Lib.hid (HS.out.ch (S := []) (.of_below hb1) (by simp))
        have C1 := Lib.hid (ended_any HS1.out (HF.out.ch HC1.out) (r : Int))
        rw [show endB t (f (r : Int)) = E (r : Int) from by rw [HE.out]] at C1
        clear hb1 hc1 c2 c3 HAr HS HC
        cases he : E (r : Int) with
        | false =>
          rw [he] at C1
          have hls := HLs.out
          rw [he] at hls
          simp only [Bool.false_eq_true, if_false] at hls
          have HL2 := Lib.hid hls
          clear hls he HLs
          go_wp2_with fail
          with_reducible refine C1.out.mono ?_
          rintro e w' ⟨rfl, rfl⟩
          have C4 := Lib.hid (without_one A (r : Int) w1 3 HMA.out HMB.out)
          have hS4 := Lib.hid (HS1.out.ch ((Ch.refl [] w1).alloc (.cells #[.int .i64 (r : Int)] 3)) (by simp))
          have hC4 := Lib.hid (HC1.out.alloc (.cells #[.int .i64 (r : Int)] 3))
          go_wp2_with fail
          with_reducible refine C4.out.mono ?_
          rintro e w' ⟨rfl, rfl⟩
          obtain ⟨w4, hw4⟩ : ∃ W, W = w1.alloc (.cells #[.int .i64 (r : Int)] 3) := ⟨_, rfl⟩
          rw [← hw4] at hS4 hC4 ⊢
          clear hw4 C4
          have c3 := hS4.out.c3
          have f3 := hS4.out.fr 3
          have HS5 := Lib.hid (hS4.out.setP Q)
          have HC5 := Lib.hid (hC4.out.setCell (p := ⟨c, 3, none⟩) (by simp) (.int .i64 (Q : Int)))
          clear hS4 hC4
          go_wp2_with fail
          go_roundw
          case rel => exact ⟨k + 1, by omega, by go_num, .inl (by omega), by rw [HSt.out, HMB.out], by rw [HL2.out, HPl.out]; exact HS5.out, HC5.out⟩
          case measure => simp [intOf]; omega
        | true =>
          rw [he] at C1
          have hls := HLs.out
          rw [he] at hls
          simp only [if_true] at hls
          have HL2 := Lib.hid hls
          clear hls he HLs
          go_wp2_with fail
          with_reducible refine C1.out.mono ?_
          rintro e w' ⟨rfl, rfl⟩
          obtain ⟨M2, hM2⟩ : ∃ M, mskN (rmv L (r : Int)) = M := ⟨_, rfl⟩
          have C2 := Lib.hid (without_one L (r : Int) w1 3 HML.out hM2)
          have hS2 := HS1.out.ch ((Ch.refl [] w1).alloc (.cells #[.int .i64 (r : Int)] 3)) (by simp)
          have c2 := HS1.out.c2
          rw [HML.out] at c2
          have d2 := hS2.c2
          have f2 := hS2.fr 2
          have HS2 := Lib.hid (hS2.setL (rmv L (r : Int)))
          rw [hM2] at HS2
          have HC2 := Lib.hid ((HC1.out.alloc (.cells #[.int .i64 (r : Int)] 3)).setCell (p := ⟨c, 2, none⟩) (by simp) (.int .u64 (M2 : Int)))
          clear hS2 hM2
          go_wp2_with fail
          with_reducible refine C2.out.mono ?_
          rintro e w' ⟨rfl, rfl⟩
          go_wp2_with fail
          obtain ⟨w3, hw3⟩ : ∃ W, W = (w1.alloc (.cells #[.int .i64 (r : Int)] 3)).setCell ⟨c, 2, none⟩ (.int .u64 (M2 : Int)) := ⟨_, rfl⟩
          have hsz : w1.heap.size + 1 = w3.heap.size := by rw [hw3]; simp [World.setCell]
          rw [← hw3] at HS2 HC2
          rw [← hw3, hsz]
          clear hw3 hsz c2 d2 f2 C1 C2
          have C4 := Lib.hid (without_one A (r : Int) w3 3 HMA.out HMB.out)
          have hS4 := Lib.hid (HS2.out.ch ((Ch.refl [] w3).alloc (.cells #[.int .i64 (r : Int)] 3)) (by simp))
          have hC4 := Lib.hid (HC2.out.alloc (.cells #[.int .i64 (r : Int)] 3))
          with_reducible refine C4.out.mono ?_
          rintro e w' ⟨rfl, rfl⟩
          obtain ⟨w4, hw4⟩ : ∃ W, W = w3.alloc (.cells #[.int .i64 (r : Int)] 3) := ⟨_, rfl⟩
          rw [← hw4] at hS4 hC4 ⊢
          clear hw4 C4
          have c3 := hS4.out.c3
          have f3 := hS4.out.fr 3
          have HS5 := Lib.hid (hS4.out.setP Q)
          have HC5 := Lib.hid (hC4.out.setCell (p := ⟨c, 3, none⟩) (by simp) (.int .i64 (Q : Int)))
          clear hS4 hC4
          go_wp2_with fail
          go_roundw
          case rel => exact ⟨k + 1, by omega, by go_num, .inl (by omega), by rw [HSt.out, HMB.out], by rw [HL2.out, HPl.out]; exact HS5.out, HC5.out⟩
          case measure => simp [intOf]; omega
      · have hn0 : decide ((k : Int) < n) = false := decide_eq_false hn
        have hend := poll_end (n := n) (l := O) (k := k) (by rw [← HN.out]; exact hk) hkn (.inl hn)
        have HEnd := Lib.hid hend
        have CE := Lib.hid (len_msk L wr HML.out)
        clear hend hn
        go_wp2_with fail
        with_reducible refine CE.out.mono ?_
        rintro e w' ⟨rfl, rfl⟩
        go_wp2_with fail
        try rw [Exit.noGoto_ret]
        go_ret
        rw [HEnd.out, ← HLk.out, ← HPk.out]
        exact ⟨rfl, HS.out, HC.out⟩
    · have hend := poll_end (n := n) (l := O) (k := k) (by rw [← HN.out]; exact hk) hkn (.inr (by rw [← HN.out]; omega))
      have HEnd := Lib.hid hend
      rw [ahd_end (by rw [← HN.out]; omega)] at HAr
      obtain ⟨L, hL⟩ : ∃ L, L = lft E p O k := ⟨_, rfl⟩
      rw [← hL] at HS c2
      have HLk := Lib.hid hL
      obtain ⟨ML, hML⟩ : ∃ M, mskN L = M := ⟨_, rfl⟩
      rw [hML] at c2
      have HML := Lib.hid hML
      clear hend hL hML
      by_cases hn : (k : Int) < n
      · go_wp2_with fail
        with_reducible refine HAr.out.mono ?_
        rintro e w1 ⟨rfl, hb1⟩
        have hc1 : Ch [c] wr w1 := .of_below hb1
        have HC1 := Lib.hid (HC.out.trans hc1)
        have HS1 := Lib.hid (HS.out.ch (S := []) (.of_below hb1) (by simp))
        have CE := Lib.hid (len_msk L w1 HML.out)
        clear hb1 hc1 c2 c3 HAr HS HC
        have c2 := HS1.out.c2
        rw [HML.out] at c2
        go_wp2_with fail
        with_reducible refine CE.out.mono ?_
        rintro e w' ⟨rfl, rfl⟩
        go_wp2_with fail
        try rw [Exit.noGoto_ret]
        go_ret
        rw [HEnd.out, ← HLk.out, ← HPk.out]
        exact ⟨rfl, HS1.out, HC1.out⟩
      · have hn0 : decide ((k : Int) < n) = false := decide_eq_false hn
        have CE := Lib.hid (len_msk L wr HML.out)
        clear hn
        go_wp2_with fail
        with_reducible refine CE.out.mono ?_
        rintro e w' ⟨rfl, rfl⟩
        go_wp2_with fail
        try rw [Exit.noGoto_ret]
        go_ret
        rw [HEnd.out, ← HLk.out, ← HPk.out]
        exact ⟨rfl, HS.out, HC.out⟩
end Go.Proofs.YtjoaigadlpndcaaGreatDoor
namespace Go.Proofs.YtjoaigadlpndcaaGreatDoor
open Go.RowKit

theorem nil_poll (w : World) (n : Int) : Calls Tryz.prog 70 #[.pointer none, .int .i64 n] w fun e w' => e = .returned (.int .i64 0) ∧ w = w' := by
  go_enter Tryz.func70, Tryz.ntmps70
  go_wp2_with fail
  try go_step3
  go_wp2_with fail
  try rw [Exit.noGoto_ret]
  go_ret
  exact ⟨rfl, rfl⟩
theorem nil_left (w : World) : Calls Tryz.prog 49 #[.pointer none] w fun e w' => e = .returned (.int .u64 0) ∧ w = w' := by
  go_enter Tryz.func49, Tryz.ntmps49
  go_wp2
  go_ret
  exact ⟨rfl, rfl⟩
/-- Who has ended, as sections tell it now. -/
def endF (t : Int) (x : SS) (r : Int) : Bool := endB t (sOf x r)
/-- A scan of a law's own, of sections of its own. -/
structure XL (w0 w : World) (b c : Nat) (x : SS) (t : Int) (p : Nat → Bool) (P : Nat) : Prop where
  l : SL w0 w b x
  n : Sn w c (.pointer (some ⟨b, 0, none⟩)) t p P
  bc : b ≠ c
  lo : w0.heap.size ≤ c
  tab : Mk.Tab w0
  lt : P < 64
section
variable {w0 w w' : World} {b c : Nat} {x : SS} {t : Int} {p : Nat → Bool} {P : Nat}
theorem tab_lt (h : Mk.Tab w) : 0 < w.heap.size := cell_lt (h 0 (by decide))
theorem XL.sns (h : XL w0 w b c x t p P) : Sns w c (.pointer (some ⟨b, 0, none⟩)) (sOf x) := .of h.l.s h.bc
theorem XL.quiet (h : XL w0 w b c x t p P) (hc : Ch [] w w') : XL w0 w' b c x t p P := ⟨h.l.quiet hc, h.n.ch hc (by simp), h.bc, h.lo, h.tab, h.lt⟩
theorem XL.sect {y : SS} (h : XL w0 w b c x t p P) (hl : SL w0 w' b y) (hc : Ch [b] w w') : XL w0 w' b c y t p P := ⟨hl, h.n.ch hc (by simpa using h.bc.symm), h.bc, h.lo, h.tab, h.lt⟩
theorem SL.turn {S : List Nat} (h : SL w0 w b x) (hc : Ch S w w') (hb : b ∉ S) (hS : ∀ k ∈ S, w0.heap.size ≤ k) : SL w0 w' b x := ⟨h.s.ch hc hb, h.g, h.ch.fresh hc hS, h.lo⟩
theorem XL.poll (h : XL w0 w b c x t p P) (n : Int) {p' : Nat → Bool} {P' v : Nat} (hp : pollL (endF t x) P p n = p') (hP : pollP P p n = P') (hv : cntN p' 64 = v) :
    Calls Tryz.prog 70 #[.pointer (some ⟨c, 0, none⟩), .int .i64 n] w fun e w' => e = .returned (.int .i64 (v : Int)) ∧ XL w0 w' b c x t p' P' ∧ Ch [c] w w' := by
  have hg : 0 ≠ c := by have := tab_lt h.tab; have := h.lo; omega
  refine (poll_any h.n h.sns h.lt (tab_ch h.tab h.l.ch (by simp)) hg n).mono ?_
  rintro e w' ⟨rfl, hs, hc⟩
  have e1 : pollL (fun r => endB t (sOf x r)) P p n = p' := hp
  rw [e1, hP] at hs
  rw [e1, hv]
  exact ⟨rfl, ⟨h.l.turn hc (by simpa using h.bc) (by simpa using h.lo), hs, h.bc, h.lo, h.tab, by rw [← hP]; exact pollP_lt h.lt p n⟩, hc⟩
theorem SL.scan (h : SL w0 w b x) (hT : Mk.Tab w0) :
    Calls Tryz.prog 72 #[.pointer (some ⟨b, 0, none⟩)] w fun e w' => ∃ c, e = .returned (.pointer (some ⟨c, 0, none⟩)) ∧ XL w0 w' b c x x.n (inP x) 0 ∧ w.heap.size ≤ c ∧ Ch [] w w' := by
  refine (new_any h.s).mono ?_
  rintro e w' ⟨c, rfl, hs, hlo, hc⟩
  exact ⟨c, rfl, ⟨h.quiet hc, hs, by have := h.s.lt; omega, Nat.le_trans h.ch.size hlo, hT, by decide⟩, hlo, hc⟩
end

/-- A reader's deed, of the program; of the answer's list. -/
def doS (x : SS) (r : Int) (o : Bool) : SS := if o = true then exitS x r else enterS x r
theorem do_n (x : SS) (r : Int) (o : Bool) : x.n ≤ (doS x r o).n ∧ (doS x r o).n ≤ x.n + 1 := by
  cases o
  · exact enter_n x r
  · have := exit_n x r
    show x.n ≤ (exitS x r).n ∧ (exitS x r).n ≤ x.n + 1
    omega

def ky0 : SS := (enterL SS.zero [3, 5]).2
def ky1 : SS := exitS ky0 3
def ky2 : SS := enterS ky1 3
def kp1 : Nat → Bool := pollL (endF 2 ky2) 0 (inP ky0) 1
def kp2 : Nat → Bool := pollL (endF 2 ky2) 4 kp1 1
end Go.Proofs.YtjoaigadlpndcaaGreatDoor

/-
  Lists of a law's own: what each call tells and leaves; nil ones; Same; the chapter's example holds.
-/
import Derived.Test.YtnnliimjemmekaaCaN
namespace Go.Proofs.Ytnnliimjemmekaa
open Go.RowKit Go.Shelf Go.Maps
open rC (Th RL flat tv objT)

attribute [local go_sem] Oper.semAt_some

set_option maxHeartbeats 1000000 in
theorem same_eq (a1 a2 : Option Addr) (cap1 cap2 : Nat) (zs : List Int) (w : World) (hl : zs.length ≤ 9223372036854775807) (h1 : IntsAt w a1 zs) (h2 : IntsAt w a2 zs) :
    Calls Try.prog 13 #[.slice a1 zs.length cap1, .slice a2 zs.length cap2] w fun e w' => e = .returned (.bool true) ∧ ∃ m, w' = w.drewN m := by
  obtain ⟨n, hn⟩ : ∃ n, n = zs.length := ⟨_, rfl⟩
  rw [← hn] at hl ⊢
  have HN := Lib.hid hn
  have H1 := Lib.hid h1
  have H2 := Lib.hid h2
  clear hn h1 h2
  go_enter Try.func13, Try.ntmps13
  go_wp2
  go_loopw [5] (fun i wr => ∃ k m : Nat, k ≤ n ∧ i = .int .i64 (k : Int) ∧ wr = w.drewN m) (fun i _ => n - (intOf i).toNat)
  case atStart => exact ⟨0, 0, by omega, rfl, rfl⟩
  case round =>
    obtain ⟨k, m, hk, rfl, rfl⟩ := hrel
    by_cases hlt : k < n
    · rcases H1.out with h0 | ⟨b, off, rfl, hc⟩
      · exfalso; rw [HN.out, h0] at hlt; simp at hlt
      · rcases H2.out with h0 | ⟨b2, off2, rfl, hc2⟩
        · exfalso; rw [HN.out, h0] at hlt; simp at hlt
        · have hc := hc k (by rw [← HN.out]; exact hlt)
          have hc2 := hc2 k (by rw [← HN.out]; exact hlt)
          generalize zs[k]?.getD 0 = z at hc hc2
          have hzz : (z != z) = false := by simp
          go_wp2
          go_quiet (fail)
          go_wp2
          go_roundw
          case rel => exact ⟨k + 1, _, by omega, by go_num, rfl⟩
          case measure => simp [intOf]; omega
    · go_wp2
      go_ret
      exact ⟨rfl, m, rfl⟩
theorem ints_own {w : World} {B e n cap : Nat} {a : Option Addr} {zs : List Int} (h : w.ownsRow B e 1 (.slice a n cap) n (ivs zs)) : IntsAt w a zs ∧ n = zs.length := by
  have hl := h.1
  simp at hl
  refine ⟨?_, hl.symm⟩
  rcases h.2 with ⟨e1, rfl⟩ | ⟨g, cp, cur, e1, hg⟩
  · exact .inl (List.eq_nil_of_length_eq_zero (by omega))
  · cases e1
    refine .inr ⟨g, 0, rfl, fun i hi => ?_⟩
    have := h.cellAt i (by omega)
    rw [Nat.zero_add, this, List.getElem?_map, List.getElem?_eq_getElem hi]
    rfl
theorem ints_one (w : World) (z : Int) (t : TypeId) : IntsAt (w.alloc (.cells #[.int .i64 z] t)) (some ⟨w.heap.size, 0, none⟩) [z] := by
  refine .inr ⟨_, _, rfl, fun i hi => ?_⟩
  obtain rfl : i = 0 := by simp at hi; omega
  exact (One.new w (.int .i64 z) t).c0
theorem IntsAt.ch {w w' : World} {a : Option Addr} {zs : List Int} (h : IntsAt w a zs) (hc : Ch [] w w') : IntsAt w' a zs := by
  rcases h with h | ⟨b, off, e, h⟩
  · exact .inl h
  · exact .inr ⟨b, off, e, fun i hi => (hc.cell (p := ⟨b, off + i, none⟩) (cell_lt (h i hi)) (by simp)).trans (h i hi)⟩

/-- Lists, where it doesn't matter where their parts lie. -/
def LC (w : World) (base top A n : Nat) (last : Int) (f : Nat → List Th) : Prop := ∃ G R Q, CL w base top A G n last R Q f
section
variable {w w' : World} {base top A n : Nat} {last : Int} {f : Nat → List Th}
theorem LC.chP {T : Nat → Prop} (h : LC w base top A n last f) (hc : ChP T w w') (hT : ∀ k, T k → ¬ Own base top k) : LC w' base top A n last f := by
  obtain ⟨G, R, Q, h⟩ := h
  exact ⟨G, R, Q, h.chP hc hT⟩
theorem LC.quiet (h : LC w base top A n last f) (hc : Ch [] w w') : LC w' base top A n last f := h.chP (T := fun _ => False) (.quiet hc) (fun _ e => e.elim)
theorem LC.below (h : LC w base top A n last f) (hc : Below w.heap.size w w') : LC w' base top A n last f := h.quiet (.of_below hc)
theorem LC.hi (h : LC w base top A n last f) : top ≤ w.heap.size := by
  obtain ⟨G, R, Q, h⟩ := h
  exact h.hi
theorem LC.n64 (h : LC w base top A n last f) : 1 ≤ n ∧ n ≤ 64 := by
  obtain ⟨G, R, Q, h⟩ := h
  exact ⟨h.n1, h.n64⟩
theorem LC.len (h : LC w base top A n last f) : ∀ i, i < n → (f i).length ≤ 64 := by
  obtain ⟨G, R, Q, h⟩ := h
  exact fun i hi => (h.ring i hi).le.1
theorem LC.inA (h : LC w base top A n last f) : Own base top A := by
  obtain ⟨G, R, Q, h⟩ := h
  exact h.inA
theorem LC.congr (h : LC w base top A n last f) {g : Nat → List Th} (hg : ∀ i, i < n → g i = f i) : LC w base top A n last g := by
  obtain ⟨G, R, Q, h⟩ := h
  exact ⟨G, R, Q, h.congr hg⟩
theorem LC.lp (h : LC w base top A n last f) : LP w.heap.size w (some ⟨A, 0, none⟩) (catL f n) ∧ (catL f n).length ≤ 4096 := by
  have h1 := catL_len h.len n (Nat.le_refl _)
  have h2 := h.n64
  obtain ⟨G, R, Q, h⟩ := h
  refine ⟨.inr ⟨base, top, A, G, n, last, R, Q, f, rfl, h.hi, h, rfl⟩, ?_⟩
  have : n * 64 ≤ 64 * 64 := Nat.mul_le_mul_right _ h2.2
  omega
theorem LC.add (h : LC w base top A n last f) {c : Nat} (hc : c < n) {a : Option Addr} {cap : Nat} {zs : List Int} (hz : IntsAt w a zs) (hl : zs.length ≤ cap) (hcap : cap ≤ 9223372036854775807) (hb : zs ≠ [] → ∀ x, a = some x → ¬ Own base top x.block) :
    Calls Try.prog 9 #[.pointer (some ⟨A, 0, none⟩), .int .i64 (c : Int), .slice a zs.length cap] w fun e w' =>
      e = .returned (.int .i64 (if 64 < (f c).length + zs.length then 3 else 0)) ∧ LC w' base top A n last (updF f c ((f c ++ zs.map fresh).take 64)) ∧ ChP (Own base top) w w' := by
  obtain ⟨G, R, Q, h⟩ := h
  exact (add_in h hc hz hl hcap hb).mono fun e w' ⟨h1, h2, h3⟩ => ⟨h1, ⟨G, R, Q, h2⟩, h3⟩
/-- One more, of a slice that the call has made. -/
theorem LC.add1 (h : LC w base top A n last f) {c : Nat} (hc : c < n) (z : Int) :
    Calls Try.prog 9 #[.pointer (some ⟨A, 0, none⟩), .int .i64 (c : Int), .slice (some ⟨w.heap.size, 0, none⟩) 1 1] (w.alloc (.cells #[.int .i64 z] 3)) fun e w' =>
      e = .returned (.int .i64 (if 64 < (f c).length + 1 then 3 else 0)) ∧ LC w' base top A n last (updF f c ((f c ++ [fresh z]).take 64)) ∧ ChP (Own base top) w w' := by
  have hhi := h.hi
  have h1 := (h.quiet ((Ch.refl [] w).alloc (.cells #[.int .i64 z] 3))).add hc (cap := 1) (ints_one w z _) (by simp) (by decide) (fun _ x e => by cases e; intro e; have := e.2; simp at this; omega)
  exact h1.mono fun e w' ⟨h1, h2, h3⟩ => ⟨h1, h2, ((ChP.refl _ w).alloc _).trans h3⟩
theorem LC.add_out (h : LC w base top A n last f) {i : Int} (hi : i < 0 ∨ (n : Int) ≤ i) (v : Value) :
    Calls Try.prog 9 #[.pointer (some ⟨A, 0, none⟩), .int .i64 i, v] w fun e w' => e = .returned (.int .i64 2) ∧ w = w' := by
  obtain ⟨G, R, Q, h⟩ := h
  exact Go.Proofs.Ytnnliimjemmekaa.add_out h hi v
theorem LC.close (h : LC w base top A n last f) {gen : Int} (h1 : 1 ≤ gen) (h2 : last ≤ gen) :
    Calls Try.prog 11 #[.pointer (some ⟨A, 0, none⟩), .int .i64 gen] w fun e w' =>
      e = .returned (.int .i64 (sumN (fun i => zc (f i)) n : Int)) ∧ LC w' base top A n gen (fun i => (f i).map (giveT gen)) ∧ ChP (Own base top) w w' := by
  obtain ⟨G, R, Q, h⟩ := h
  exact (close_ok h h1 h2).mono fun e w' ⟨h1, h2, h3⟩ => ⟨h1, ⟨G, R, Q, h2⟩, h3⟩
theorem LC.close_no (h : LC w base top A n last f) {gen : Int} (h1 : gen < 1 ∨ gen < last) :
    Calls Try.prog 11 #[.pointer (some ⟨A, 0, none⟩), .int .i64 gen] w fun e w' => e = .returned (.int .i64 0) ∧ w = w' := by
  obtain ⟨G, R, Q, h⟩ := h
  exact Go.Proofs.Ytnnliimjemmekaa.close_no h h1
theorem LC.done (h : LC w base top A n last f) (gen : Int) :
    Calls Try.prog 14 #[.pointer (some ⟨A, 0, none⟩), .int .i64 gen] w fun e w' =>
      ∃ v, e = .returned v ∧ w'.ownsRow w.heap.size 3 1 v (outN gen f n).length (ivs (outN gen f n)) ∧ LC w' base top A n last (fun i => (f i).dropWhile (up gen)) ∧ ChP (Own base top) w w' := by
  obtain ⟨G, R, Q, h⟩ := h
  exact (callsIn_wide.1 (done_in 0 h gen)).mono fun e w' ⟨v, h0, h1, h2, h3⟩ => ⟨v, h0, h1, ⟨G, R, Q, h2⟩, h3⟩
theorem LC.of (h : LC w base top A n last f) {c : Nat} (hc : c < n) :
    Calls Try.prog 19 #[.pointer (some ⟨A, 0, none⟩), .int .i64 (c : Int)] w fun e w' => ∃ v, e = .returned v ∧ w'.ownsRow w.heap.size 51 2 v (f c).length (flat (f c)) ∧ Below w.heap.size w w' := by
  obtain ⟨G, R, Q, h⟩ := h
  exact of_in h hc
theorem LC.of_out (h : LC w base top A n last f) {i : Int} (hi : i < 0 ∨ (n : Int) ≤ i) :
    Calls Try.prog 19 #[.pointer (some ⟨A, 0, none⟩), .int .i64 i] w fun e w' => e = .returned (.slice none 0 0) ∧ w = w' := by
  obtain ⟨G, R, Q, h⟩ := h
  exact Go.Proofs.Ytnnliimjemmekaa.of_out h hi
theorem LC.open' (h : LC w base top A n last f) :
    Calls Try.prog 16 #[.pointer (some ⟨A, 0, none⟩)] w fun e w' => e = .returned (.int .i64 (zcI (catL f n))) ∧ Below w.heap.size w w' := callsIn_wide.1 (open_in 0 h.lp.1 h.lp.2)
theorem LC.newest (h : LC w base top A n last f) :
    Calls Try.prog 17 #[.pointer (some ⟨A, 0, none⟩)] w fun e w' => e = .returned (.int .i64 (mxI (catL f n))) ∧ Below w.heap.size w w' := callsIn_wide.1 (newest_in 0 h.lp.1 h.lp.2)
theorem LC.len' (h : LC w base top A n last f) :
    Calls Try.prog 18 #[.pointer (some ⟨A, 0, none⟩)] w fun e w' => e = .returned (.int .i64 (lnI (catL f n))) ∧ Below w.heap.size w w' := callsIn_wide.1 (len_in 0 h.lp.1 h.lp.2)
theorem lc_new {n : Nat} (h0 : 1 ≤ n) (h1 : n ≤ 64) (w : World) :
    Calls Try.prog 7 #[.int .i64 (n : Int)] w fun e w' => ∃ A, e = .returned (.tuple #[.pointer (some ⟨A, 0, none⟩), .int .i64 0]) ∧ LC w' w.heap.size w'.heap.size A n 0 (fun _ => []) ∧ Below w.heap.size w w' :=
  (new_ok h0 h1 w).mono fun _ _ ⟨A, G, R, Q, h1, h2, h3⟩ => ⟨A, h1, ⟨G, R, Q, h2⟩, h3⟩
end
/-- Nil lists. -/
theorem nil_lp (w : World) : LP w.heap.size w none [] := .inl ⟨rfl, rfl⟩
theorem open_nil (w : World) : Calls Try.prog 16 #[.pointer none] w fun e w' => e = .returned (.int .i64 0) ∧ Below w.heap.size w w' := callsIn_wide.1 (open_in 0 (nil_lp w) (by simp))
theorem newest_nil (w : World) : Calls Try.prog 17 #[.pointer none] w fun e w' => e = .returned (.int .i64 0) ∧ Below w.heap.size w w' := callsIn_wide.1 (newest_in 0 (nil_lp w) (by simp))
theorem len_nil' (w : World) : Calls Try.prog 18 #[.pointer none] w fun e w' => e = .returned (.int .i64 0) ∧ Below w.heap.size w w' := callsIn_wide.1 (len_in 0 (nil_lp w) (by simp))
theorem chP_bel {w0 a b : World} {base top : Nat} (h : ChP (Own base top) a b) (hb : Below w0.heap.size w0 a) (hl : w0.heap.size ≤ base) : Below w0.heap.size w0 b :=
  hb.trans (h.below _ (fun k hk => by have := hk.1; omega) hb.size)
theorem bel_bel {w0 a b : World} (hb : Below w0.heap.size w0 a) (h : Below a.heap.size a b) : Below w0.heap.size w0 b := hb.trans (h.mono hb.size)

/-- What the example's lists hold, step by step. -/
def k1 : Nat → List Th := updF (fun _ => []) 1 (([] ++ [fresh 7]).take 64)
def k2 : Nat → List Th := fun i => (k1 i).map (giveT 3)
def k3 : Nat → List Th := updF k2 0 ((k2 0 ++ [fresh 8]).take 64)
def k4 : Nat → List Th := updF k3 1 ((k3 1 ++ [fresh 9]).take 64)
theorem k_close : sumN (fun i => zc (k1 i)) 2 = 1 := by decide
theorem k_open : zcI (catL k4 2) = 2 := by decide
theorem k_done : outN 5 k4 2 = [7] := by decide
set_option maxHeartbeats 2000000 in
theorem known_any (w : World) : Calls Try.prog 20 #[] w fun e w' => e = .returned (.bool true) ∧ Below w.heap.size w w' := by
  obtain ⟨S, hS⟩ : ∃ S, S = w.heap.size := ⟨_, rfl⟩
  have HS := Lib.hid hS
  have HN := Lib.hid (show Calls Try.prog 7 #[.int .i64 2] w _ from lc_new (n := 2) (by decide) (by decide) w)
  clear hS
  go_enter Try.func20, Try.ntmps20
  go_wp2_with fail
  with_reducible refine HN.out.mono ?_
  rintro e w1 ⟨A, rfl, h1, hb1⟩
  have HB1 := Lib.hid hb1
  have H1 := Lib.hid (show Calls Try.prog 9 #[.pointer (some ⟨A, 0, none⟩), .int .i64 1, .slice (some ⟨w1.heap.size, 0, none⟩) 1 1] (w1.alloc (.cells #[.int .i64 7] 3)) fun e w' => e = .returned (.int .i64 0) ∧ LC w' w.heap.size w1.heap.size A 2 0 k1 ∧ ChP (Own w.heap.size w1.heap.size) w1 w' from h1.add1 (c := 1) (by decide) 7)
  clear h1 hb1
  go_frame
  go_wp2_with fail
  with_reducible refine H1.out.mono ?_
  rintro e w2 ⟨rfl, h2, hc2⟩
  have HB2 := Lib.hid (chP_bel hc2 HB1.out (Nat.le_refl _))
  have H2 := Lib.hid (show Calls Try.prog 11 #[.pointer (some ⟨A, 0, none⟩), .int .i64 3] w2 fun e w' => e = .returned (.int .i64 1) ∧ LC w' w.heap.size w1.heap.size A 2 3 k2 ∧ ChP (Own w.heap.size w1.heap.size) w2 w' from by
    have := h2.close (gen := 3) (by decide) (by decide); rw [k_close] at this; exact this)
  clear h2 hc2
  go_frame
  go_wp2_with fail
  with_reducible refine H2.out.mono ?_
  rintro e w3 ⟨rfl, h3, hc3⟩
  have HB3 := Lib.hid (chP_bel hc3 HB2.out (Nat.le_refl _))
  have H3 := Lib.hid (show Calls Try.prog 9 #[.pointer (some ⟨A, 0, none⟩), .int .i64 0, .slice (some ⟨w3.heap.size, 0, none⟩) 1 1] (w3.alloc (.cells #[.int .i64 8] 3)) fun e w' => e = .returned (.int .i64 0) ∧ LC w' w.heap.size w1.heap.size A 2 3 k3 ∧ ChP (Own w.heap.size w1.heap.size) w3 w' from h3.add1 (c := 0) (by decide) 8)
  clear h3 hc3
  go_frame
  go_wp2_with fail
  with_reducible refine H3.out.mono ?_
  rintro e w4 ⟨rfl, h4, hc4⟩
  have HB4 := Lib.hid (chP_bel hc4 HB3.out (Nat.le_refl _))
  have H4 := Lib.hid (show Calls Try.prog 9 #[.pointer (some ⟨A, 0, none⟩), .int .i64 1, .slice (some ⟨w4.heap.size, 0, none⟩) 1 1] (w4.alloc (.cells #[.int .i64 9] 3)) fun e w' => e = .returned (.int .i64 0) ∧ LC w' w.heap.size w1.heap.size A 2 3 k4 ∧ ChP (Own w.heap.size w1.heap.size) w4 w' from h4.add1 (c := 1) (by decide) 9)
  clear h4 hc4
  go_frame
  go_wp2_with fail
  with_reducible refine H4.out.mono ?_
  rintro e w5 ⟨rfl, h5, hc5⟩
  have HB5 := Lib.hid (chP_bel hc5 HB4.out (Nat.le_refl _))
  have H5 := Lib.hid (show Calls Try.prog 16 #[.pointer (some ⟨A, 0, none⟩)] w5 fun e w' => e = .returned (.int .i64 2) ∧ Below w5.heap.size w5 w' from by
    have := h5.open'; rw [k_open] at this; exact this)
  have HL5 := Lib.hid h5
  clear h5 hc5
  go_frame
  go_wp2_with fail
  with_reducible refine H5.out.mono ?_
  rintro e w6 ⟨rfl, hb6⟩
  have HB6 := Lib.hid (bel_bel HB5.out hb6)
  have H6 := Lib.hid ((HL5.out.below hb6).done 5)
  rw [k_done] at H6
  clear hb6
  go_frame
  go_wp2_with fail
  with_reducible refine H6.out.mono ?_
  rintro e w7 ⟨v, rfl, hrow, h7, hc7⟩
  obtain ⟨a, cp, rfl⟩ := own_form hrow
  have HB7 := Lib.hid (chP_bel hc7 HB6.out (Nat.le_refl _))
  have H7 := Lib.hid (show Calls Try.prog 13 #[.slice a 1 cp, .slice (some ⟨w7.heap.size, 0, none⟩) 1 1] (w7.alloc (.cells #[.int .i64 7] 3)) _ from
    same_eq a (some ⟨w7.heap.size, 0, none⟩) cp 1 [7] (w7.alloc (.cells #[.int .i64 7] 3)) (by simp) ((ints_own hrow).1.ch ((Ch.refl [] w7).alloc _)) (ints_one w7 7 _))
  clear hrow h7 hc7
  go_frame
  go_wp2_with fail
  with_reducible refine H7.out.mono ?_
  rintro e w8 ⟨rfl, m, rfl⟩
  go_frame
  go_wp2
  go_ret
  exact ⟨rfl, below_drewN (HB7.out.alloc HB7.out.size _) _⟩
end Go.Proofs.Ytnnliimjemmekaa

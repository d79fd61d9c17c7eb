/-
  The chapter's example holds; ScanNil.
-/
import Derived.Test.YtlmepjpkaionbaaDoorSnK
namespace Go.Proofs.YtlmepjpkaionbaaDoor
open Go.RowKit

section
variable {w0 w : World} {b c : Nat} {x : SS} {t : Int} {p : Nat → Bool} {P : Nat}
theorem XL.place (h : XL w0 w b c x t p P) {v : Int} (hv : (P : Int) = v) : Calls Tryd.prog 18 #[.pointer (some ⟨c, 0, none⟩)] w fun e w' => e = .returned (.int .i64 v) ∧ w = w' := place_any h.n hv
theorem XL.began (h : XL w0 w b c x t p P) {v : Int} (hv : t = v) : Calls Tryd.prog 10 #[.pointer (some ⟨c, 0, none⟩)] w fun e w' => e = .returned (.int .i64 v) ∧ w = w' := began_any h.n hv
theorem XL.left (h : XL w0 w b c x t p P) {m : Nat} (hm : mskN p = m) : Calls Tryd.prog 11 #[.pointer (some ⟨c, 0, none⟩)] w fun e w' => e = .returned (.int .u64 (m : Int)) ∧ w = w' := left_any h.n hm
theorem XL.done (h : XL w0 w b c x t p P) {d : Bool} (hd : decide (cntN p 64 = 0) = d) : Calls Tryd.prog 19 #[.pointer (some ⟨c, 0, none⟩)] w fun e w' => e = .returned (.bool d) ∧ w = w' := done_any h.n hd
end

set_option maxHeartbeats 1000000 in
theorem known_any (w : World) (hT : Mk.Tab w) :
    Calls Tryd.prog 20 #[] w fun e w' => e = .returned (.bool true) ∧ Ch [] w w' := by
  have hz := secZ_zero w
  have H0 := Lib.hid (SL.new w (Ch.refl [] w) 26)
  have HT := Lib.hid hT
  clear hT
  go_enter Tryd.func20, Tryd.ntmps20
  go_wp2_with fail
  obtain ⟨b, hb⟩ : ∃ b, b = w.heap.size := ⟨_, rfl⟩
  obtain ⟨w1, hw1⟩ : ∃ W, W = w.alloc (.cells secZ 26) := ⟨_, rfl⟩
  have hs : w.heap.size + 1 = w1.heap.size := by rw [hw1]; simp
  rw [hs, ← hw1, ← hb]
  rw [← hw1, ← hb] at H0
  have hbl : b < w1.heap.size := by omega
  clear hz hw1 hs hb
  have E1 : enterL SS.zero [3, 5] = (0, ky0) := Prod.ext (by decide +kernel) rfl
  have C1 := Lib.hid ((H0.out.alloc (.cells #[.int .i64 3, .int .i64 5] 3)).enterL (a := some ⟨w1.heap.size, 0, none⟩) (cap := 2) (zs := [3, 5]) (n := 2) rfl (by decide) (intsAt_two w1 3 5 _) (.inr fun y e => by cases e; simp only; omega) E1)
  clear E1 H0 hbl
  with_reducible refine C1.out.mono ?_
  rintro e w2 ⟨rfl, h1, -⟩
  have C2 := h1.scan HT.out
  rw [show ky0.n = 2 by decide +kernel] at C2
  have C2 := Lib.hid C2
  clear h1 C1
  go_wp2_with fail
  with_reducible refine C2.out.mono ?_
  rintro e w3 ⟨c, rfl, h2, -, -⟩
  have C3 := Lib.hid (h2.l.exit 3 (u := true) (e := 0) (by decide +kernel) (by decide +kernel))
  have H2 := Lib.hid h2
  clear h2 C2
  go_wp2_with fail
  with_reducible refine C3.out.mono ?_
  rintro e w4 ⟨rfl, h3, hc3⟩
  rw [show exitS ky0 3 = ky1 from rfl] at h3
  have C4 := Lib.hid (h3.enter 3 (by decide +kernel) (e := 0) (by decide +kernel) 3)
  have H3 := Lib.hid (H2.out.sect h3 hc3)
  clear h3 hc3 C3 H2
  go_wp2_with fail
  with_reducible refine C4.out.mono ?_
  rintro e w5 ⟨rfl, h4, hc4⟩
  rw [show enterS ky1 3 = ky2 from rfl] at h4
  have h5 := H3.out.sect h4 hc4
  have C5 := Lib.hid (h5.poll 1 (p' := kp1) (P' := 4) (v := 1) rfl (by decide +kernel) (by decide +kernel))
  clear h4 hc4 C4 H3 h5
  go_wp2_with fail
  with_reducible refine C5.out.mono ?_
  rintro e w6 ⟨rfl, h6, -⟩
  have C6 := Lib.hid (h6.place (v := 4) (by decide))
  have C7 := Lib.hid (h6.poll 1 (p' := kp2) (P' := 6) (v := 1) rfl (by decide +kernel) (by decide +kernel))
  clear h6 C5
  go_wp2_with fail
  with_reducible refine C6.out.mono ?_
  rintro e w6' ⟨rfl, rfl⟩
  go_wp2_with fail
  with_reducible refine C7.out.mono ?_
  rintro e w7 ⟨rfl, h7, -⟩
  have C8 := Lib.hid (h7.place (v := 6) (by decide))
  have C9 := Lib.hid (h7.left (m := 32) (by decide +kernel))
  have D1 := Lib.hid (h7.done (d := false) (by decide +kernel))
  have H7 := Lib.hid h7.l.ch
  clear h7 C6 C7
  go_wp2_with fail
  with_reducible refine C8.out.mono ?_
  rintro e w7' ⟨rfl, rfl⟩
  go_wp2_with fail
  with_reducible refine C9.out.mono ?_
  rintro e w7' ⟨rfl, rfl⟩
  go_wp2_with fail
  with_reducible refine D1.out.mono ?_
  rintro e w7' ⟨rfl, rfl⟩
  go_wp2_with fail
  go_ret
  exact ⟨rfl, H7.out⟩

theorem pollL_none {e : Int → Bool} {P : Nat} (n : Int) : pollL e P (fun _ => false) n = fun _ => false := by
  funext i
  unfold pollL lft
  simp
theorem quietL_none (e : Int → Bool) (zs : List Int) : quietL e (fun _ => false) zs = fun _ => false := by
  induction zs with
  | nil => rfl
  | cons z zs ih =>
    have : lookL e (fun _ => false) z = fun _ => false := by
      unfold lookL rmv
      split <;> rfl
    show quietL e (lookL e (fun _ => false) z) zs = _
    rw [this, ih]
theorem pollP_none (P : Nat) (n : Int) : pollP P (fun _ => false) n = P := by
  have h : ordN P (fun _ => false) = [] := by unfold ordN; rw [List.filter_eq_nil_iff]; simp
  unfold pollP lookN
  rw [h]
  simp [plc]
theorem cnt_none : cntN (fun _ => false) 64 = 0 := by decide

set_option maxHeartbeats 2000000 in
theorem nil_law (n : Int) (w : World) (hT : Mk.Tab w) :
    Calls Tryd.prog 6 #[.int .i64 n] w fun e w' => e = .returned (.bool true) ∧ Below w.heap.size w w' := by
  have HT := Lib.hid hT
  clear hT
  go_enter Tryd.func6, Tryd.ntmps6
  go_wp2_with fail
  with_reducible refine (new_nil w).mono ?_
  rintro e w1 ⟨c, rfl, hs, hlo, hc⟩
  have HC := Lib.hid hc
  have HS := Lib.hid hs
  have HLo := Lib.hid hlo
  clear hs hlo hc
  go_wp2_with fail
  with_reducible refine (known_any _ (tab_ch HT.out HC.out (by simp))).mono ?_
  rintro e w2 ⟨rfl, hk⟩
  have HS2 := Lib.hid (HS.out.ch hk (by simp))
  have HC2 := Lib.hid (HC.out.trans hk)
  clear hk HS HC
  go_wp2_with fail
  with_reducible refine (nil_poll _ _).mono ?_
  rintro e w' ⟨rfl, rfl⟩
  go_wp2_with fail
  with_reducible refine (nil_quiet _ _ _ _).mono ?_
  rintro e w' ⟨rfl, rfl⟩
  obtain ⟨w3, hw3⟩ : ∃ W, W = w2.alloc (.cells #[.int .i64 n] 3) := ⟨_, rfl⟩
  have hal : Ch [] w2 w3 := by rw [hw3]; exact (Ch.refl [] w2).alloc _
  rw [← hw3]
  have HS3 := Lib.hid (HS2.out.ch hal (by simp))
  have HC3 := Lib.hid (HC2.out.trans hal)
  have C1 := Lib.hid (poll_any HS3.out (Sns.nil w3 c) (by decide) (tab_ch HT.out HC3.out (by simp)) (by have := tab_lt HT.out; have := HLo.out; omega) n)
  rw [pollL_none, pollP_none, cnt_none] at C1
  clear hw3 hal HS2 HC2
  go_wp2_with fail
  with_reducible refine (nil_left _).mono ?_
  rintro e w' ⟨rfl, rfl⟩
  go_wp2_with fail
  with_reducible refine (nil_done _).mono ?_
  rintro e w' ⟨rfl, rfl⟩
  go_wp2_with fail
  with_reducible refine (nil_began _).mono ?_
  rintro e w' ⟨rfl, rfl⟩
  go_wp2_with fail
  with_reducible refine (nil_place _).mono ?_
  rintro e w' ⟨rfl, rfl⟩
  go_wp2_with fail
  with_reducible refine C1.out.mono ?_
  rintro e w4 ⟨rfl, hs4, hc4⟩
  have hcf : Ch [] w w4 := HC3.out.fresh hc4 (by simpa using HLo.out)
  have hal : Ch [] w4 (w4.alloc (.cells #[.int .i64 n] 3)) := (Ch.refl [] w4).alloc _
  have hs5 := hs4.ch hal (by simp)
  have C2 := Lib.hid (quiet_any (a := some ⟨w4.heap.size, 0, none⟩) (cap := 1) (zs := [n]) hs5 (Sns.nil _ c) (intsAt_one (cell_new w4 _ _).1) (.inr fun y e => by cases e; have := hs4.lt; simp only; omega) (by simp))
  rw [quietL_none, cnt_none, show ([n] : List Int).length = 1 from rfl] at C2
  have HC5 := Lib.hid (hcf.trans hal)
  clear hs4 hc4 hcf hal hs5 C1 HS3 HC3
  go_wp2_with fail
  with_reducible refine C2.out.mono ?_
  rintro e w6 ⟨rfl, hs6, hc6⟩
  have D1 := Lib.hid (left_any hs6 (m := 0) (by decide +kernel))
  have D2 := Lib.hid (done_any hs6 (d := true) (by decide +kernel))
  have D3 := Lib.hid (began_any hs6 (v := 0) rfl)
  have HCf := Lib.hid (HC5.out.fresh hc6 (by simpa using HLo.out))
  clear hs6 hc6 C2 HC5
  go_wp2_with fail
  with_reducible refine D1.out.mono ?_
  rintro e w' ⟨rfl, rfl⟩
  go_wp2_with fail
  with_reducible refine D2.out.mono ?_
  rintro e w' ⟨rfl, rfl⟩
  go_wp2_with fail
  with_reducible refine D3.out.mono ?_
  rintro e w' ⟨rfl, rfl⟩
  go_wp2_with fail
  go_ret
  exact ⟨rfl, HCf.out.below _ (by simp) (Nat.le_refl _)⟩
end Go.Proofs.YtlmepjpkaionbaaDoor

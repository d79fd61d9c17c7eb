/-
  The law OrderPlays, walked.
-/
import Derived.Test.YtediabcgeghogaaOrM
namespace Go.Proofs.Ytediabcgeghogaa
open Go.RowKit oI

attribute [local go_sem] Oper.semAt_some

/-- A call that came in: two cells from o on. -/
def ActAt (W : World) (b o : Nat) : Prop := ∃ (x : Bool) (k : Int), W.cell? ⟨b, o, none⟩ = some (.bool x) ∧ W.cell? ⟨b, o + 1, none⟩ = some (.int .i64 k) ∧ wfK k
def ActsAt (W : World) (a : Option Addr) (len : Nat) : Prop := len = 0 ∨ ∃ b off, a = some ⟨b, off, none⟩ ∧ ∀ i, i < len → ActAt W b (off + i * 2)

theorem rfind_any {w : World} {D : Nat} {v : Value} {L : List Int} {k : Int} (h : RI w D v L) (hl : L.length ≤ 64) {b : Bool} (hb : decide (k ∈ L) = b) :
    Calls Try.prog 19 #[v, .int .i64 k] w fun e w' => (∃ z : Int, decide (0 ≤ z) = b ∧ e = .returned (.int .i64 z)) ∧ w' = w := by
  by_cases hk : k ∈ L
  · obtain ⟨A, B, rfl, hA⟩ := in_parts hk
    refine (rfind_in h hA hl).mono ?_
    rintro e w' ⟨rfl, rfl⟩
    exact ⟨⟨_, by rw [← hb, decide_eq_true hk]; simp, rfl⟩, rfl⟩
  · refine (rfind_not h hk hl).mono ?_
    rintro e w' ⟨rfl, rfl⟩
    exact ⟨⟨_, by rw [← hb, decide_eq_false hk]; simp, rfl⟩, rfl⟩
theorem last_at {x : Int} {r : List Int} : (x :: r)[r.length]? = some (newK (x :: r)) := by
  unfold newK
  induction r generalizing x with
  | nil => rfl
  | cons y s ih => simpa using ih (x := y)
theorem ends_of {L : List Int} (h : L ≠ []) : ∃ n x y, L.length = n + 1 ∧ L[0]? = some x ∧ L[n]? = some y ∧ oldK L = x ∧ newK L = y := by
  cases L with
  | nil => exact absurd rfl h
  | cons x r => exact ⟨r.length, x, newK (x :: r), rfl, rfl, last_at, rfl, rfl⟩

theorem bad_law (room : Int) (v : Value) (k : Int) (w : World) (h : room < 1 ∨ 64 < room) :
    Calls Try.prog 3 #[.int .i64 room, v, .int .i64 k] w fun e w' => e = .returned (.bool true) ∧ Ch [] w w' := by
  have HN := Lib.hid (new_bad room w h)
  by_cases h0 : room < 1
  · have hd1 : decide (room < 1) = true := by simpa using h0
    clear h
    go_enter Try.func3, Try.ntmps3
    go_wp2_with fail
    with_reducible refine HN.out.mono ?_
    rintro e w1 ⟨rfl, rfl⟩
    go_wp2_with fail
    with_reducible refine (known_any _).mono ?_
    rintro e w2 ⟨rfl, hc2⟩
    have HC := Lib.hid hc2
    clear hc2
    go_wp2_with fail
    go_ret
    exact ⟨rfl, HC.out⟩
  · have hd1 : decide (room < 1) = false := by simpa using h0
    have hd2 : decide (64 < room) = true := by simp; omega
    clear h
    go_enter Try.func3, Try.ntmps3
    go_wp2_with fail
    with_reducible refine HN.out.mono ?_
    rintro e w1 ⟨rfl, rfl⟩
    go_wp2_with fail
    with_reducible refine (known_any _).mono ?_
    rintro e w2 ⟨rfl, hc2⟩
    have HC := Lib.hid hc2
    clear hc2
    go_wp2_with fail
    go_ret
    exact ⟨rfl, HC.out⟩

set_option maxRecDepth 100000 in
set_option maxHeartbeats 4000000 in
theorem good_law (room : Nat) (hr1 : 1 ≤ room) (hr2 : room ≤ 64) (a : Option Addr) (len cap : Nat) (k : Int) (hk : wfK k) (w : World) (hA : ActsAt w a len) (_ : len ≤ 9223372036854775807) :
    Calls Try.prog 3 #[.int .i64 (room : Int), .slice a len cap, .int .i64 k] w fun e w' => e = .returned (.bool true) ∧ Ch [] w w' := by
  obtain ⟨S, hS⟩ : ∃ S, w.heap.size = S := ⟨_, rfl⟩
  have HNew := Lib.hid (ol_new room w w S hS (Ch.refl _ _) hr1 hr2)
  have HA := Lib.hid hA
  have HK := Lib.hid hk
  have HS := Lib.hid hS
  have hd1 : decide ((room : Int) < 1) = false := by simp; omega
  have hd2 : decide ((64 : Int) < (room : Int)) = false := by simp; omega
  clear hA hk hS
  go_enter Try.func3, Try.ntmps3
  go_wp2_with fail
  with_reducible refine HNew.out.mono ?_
  rintro e w1 ⟨rfl, ho1, hc1, hz1⟩
  have HO1 := Lib.hid ho1
  have HZ1 := Lib.hid hz1
  have HR0 := Lib.hid (show RI w1 (S + 2) (.slice none 0 0) [] from ⟨rfl, .inl ⟨rfl, rfl⟩⟩)
  clear ho1 hc1 hz1 HNew
  go_wp2_with fail
  clear hd1 hd2
  go_loopw [9, 10] (fun vm vi wr => ∃ (i : Nat) (X : List Int), i ≤ len ∧ i ≤ 100 ∧ vi = .int .i64 (i : Int) ∧ RI wr (S + 2) vm X ∧ OL w wr S room i X)
    (fun _ vi _ => len - (intOf vi).toNat)
  case atStart => exact ⟨0, [], Nat.zero_le _, by omega, rfl, HR0.out, HO1.out⟩
  case round =>
    obtain ⟨i, X, hi, hi2, rfl, hr, ho⟩ := hrel
    have HR := Lib.hid hr
    have HO := Lib.hid ho
    clear hr ho
    have hsz := HO.out.lt
    by_cases hgo : i < len ∧ i < 100
    · obtain ⟨hlt, hlt2⟩ := hgo
      rcases HA.out with h0 | ⟨b, off, rfl, hact⟩
      · omega
      obtain ⟨out, K, hc0, hc1, hwk⟩ := hact i hlt
      have c0 := (HO.out.ch.cell (p := ⟨b, off + i * 2, none⟩) (cell_lt hc0) (by simp)).trans hc0
      have c1 := (HO.out.ch.cell (p := ⟨b, off + i * 2 + 1, none⟩) (cell_lt hc1) (by simp)).trans hc1
      have HWk := Lib.hid hwk
      clear hact hc0 hc1 hwk
      have hb0 : (0 : Int) ≤ (i : Int) := by omega
      have hb1 : (i : Int) < (len : Int) := by omega
      have hb2 : (i : Int) < 100 := by omega
      obtain ⟨wa, hwa⟩ : ∃ wa, wr.alloc (.cells #[.bool out, .int .i64 K] 30) = wa := ⟨_, rfl⟩
      have HBx := Lib.hid (show Box2 wa wr.heap.size (.bool out) (.int .i64 K) by rw [← hwa]; exact Box2.new wr _ _ _)
      have hal : Ch [] wr wa := by rw [← hwa]; exact (Ch.refl [] wr).alloc _
      have HRa := Lib.hid (HR.out.quiet hal)
      have HOa := Lib.hid (HO.out.quiet hal)
      have HWa := Lib.hid hwa
      have hsa := hal.size
      clear hwa hal
      cases out with
      | true =>
        have HD := Lib.hid (rdrop_any (k := K) HRa.out HOa.out.nodup (by have := HOa.out.le; omega) (by have := HOa.out.lt; omega))
        obtain ⟨bq, hbq⟩ : ∃ bq, decide (K ∈ X) = bq := ⟨_, rfl⟩
        rw [hbq] at HD
        obtain ⟨X2, hX2⟩ : ∃ X2, drp X K = X2 := ⟨_, rfl⟩
        rw [hX2] at HD
        have HBq := Lib.hid hbq
        have HX2 := Lib.hid hX2
        clear hbq hX2
        go_wp2_with fail
        rw [HWa.out]
        have b0 := HBx.out.c0
        have b1 := HBx.out.c1
        clear HWa
        go_wp2_with fail
        with_reducible refine HD.out.mono ?_
        rintro e w2 ⟨vm2, rfl, hr2', hc2⟩
        have b1' := (HBx.out.ch hc2 (by simp)).c1
        have HR2 := Lib.hid hr2'
        have HDr := Lib.hid ((HOa.out.quiet hc2).drop HWk.out HX2.out HBq.out)
        have hbb : (bq != bq) = false := by simp
        clear hr2' hc2 b0 b1 HD HR HO HOa HRa HBx c0 c1
        go_wp2_with fail
        with_reducible refine HDr.out.mono ?_
        rintro e w3 ⟨rfl, ho3, hc3⟩
        have HO3 := Lib.hid ho3
        have HR3 := Lib.hid (HR2.out.ch hc3 (by simp))
        have HO3 := Lib.hid (show OL w w3 S room (i + 1) X2 from ⟨by obtain ⟨E, n, e1, e2, e3⟩ := ho3.ent; exact ⟨E, n, e1, by omega, e3⟩, ho3.ch, ho3.lo⟩)
        clear ho3 hc3 b1' HDr HR2 HBq
        obtain ⟨am, cm, hvm⟩ := own_form HR3.out
        by_cases hX0 : X2 = []
        · subst hX0
          subst hvm
          rw [show ([] : List Int).length = 0 from rfl] at *
          have HOl := Lib.hid (ol_oldest HO3.out (x := 0) (b := false) rfl rfl)
          go_wp2_with fail
          with_reducible refine HOl.out.mono ?_
          rintro e w4 ⟨rfl, hc4⟩
          have HO4 := Lib.hid (HO3.out.quiet hc4)
          have HR4 := Lib.hid (HR3.out.quiet hc4)
          have HNw := Lib.hid (ol_newest HO4.out (x := 0) (b := false) rfl rfl)
          clear hc4 HOl hbb
          go_wp2_with fail
          with_reducible refine HNw.out.mono ?_
          rintro e w5 ⟨rfl, hc5⟩
          have HO5 := Lib.hid (HO4.out.quiet hc5)
          have HR5 := Lib.hid (HR4.out.quiet hc5)
          have HLn := HO5.out.len
          rw [show ([] : List Int).length = 0 from rfl] at HLn
          have HLn := Lib.hid HLn

          clear hc5 HNw
          go_wp2_with fail
          with_reducible refine HLn.out.mono ?_
          rintro e w5' ⟨rfl, hww⟩
          subst w5'

          have HLi := Lib.hid HO5.out.list

          clear HLn
          go_wp2_with fail
          with_reducible refine HLi.out.mono ?_
          rintro e w6 ⟨v6, rfl, hr6, hc6⟩
          obtain ⟨a6, c6, rfl⟩ := own_form hr6

          have HR6 := Lib.hid (HR5.out.quiet hc6)
          have HO6 := Lib.hid (HO5.out.quiet hc6)
          have HSm := same_eq a6 am c6 cm [] w6 (by have := HO6.out.le; omega) (own_KAt hr6).2 (own_KAt HR6.out).2
          rw [show ([] : List Int).length = 0 from rfl] at HSm
          have HSm := Lib.hid HSm
          clear hr6 hc6 HLi
          go_wp2_with fail
          with_reducible refine HSm.out.mono ?_
          rintro e w7 ⟨rfl, nq, hw7⟩
          have hc7 : Ch [] w6 w7 := by rw [hw7]; exact (Ch.refl [] w6).drewN nq
          have HO7 := Lib.hid (HO6.out.quiet hc7)
          have HR7 := Lib.hid (HR6.out.quiet hc7)
          obtain ⟨bk, hbk⟩ : ∃ bk, decide (k ∈ []) = bk := ⟨_, rfl⟩
          have HHs := Lib.hid (HO7.out.has HK.out hbk)
          have HBk := Lib.hid hbk
          clear hw7 hc7 hbk HSm HO6 HR6
          go_wp2_with fail
          with_reducible refine HHs.out.mono ?_
          rintro e w8 ⟨rfl, hc8⟩
          have HO8 := Lib.hid (HO7.out.quiet hc8)
          have HR8 := Lib.hid (HR7.out.quiet hc8)
          have HFi := Lib.hid (rfind_any HR8.out (by have := HO8.out.le; omega) HBk.out)
          clear hc8 HHs
          go_wp2_with fail
          with_reducible refine HFi.out.mono ?_
          rintro e w9 ⟨⟨z, hz, rfl⟩, hww⟩
          subst w9
          have hkk : (bk != bk) = false := by simp
          clear HFi
          go_wp2
          go_roundw
          case rel => exact ⟨i + 1, [], by omega, by omega, by go_num, HR8.out, HO8.out⟩
          case measure => simp [intOf]; omega
        · obtain ⟨n, x, y, hn, hx, hy, hox, hny⟩ := ends_of hX0
          rw [hn] at hvm
          subst hvm
          clear hX0
          have HOl := Lib.hid (ol_oldest HO3.out (x := x) (b := true) hox (by rw [hn]; simp))
          go_wp2_with fail
          with_reducible refine HOl.out.mono ?_
          rintro e w4 ⟨rfl, hc4⟩
          have HO4 := Lib.hid (HO3.out.quiet hc4)
          have HR4 := Lib.hid (HR3.out.quiet hc4)
          have HNw := Lib.hid (ol_newest HO4.out (x := y) (b := true) hny (by rw [hn]; simp))
          clear hc4 HOl hbb
          go_wp2_with fail
          with_reducible refine HNw.out.mono ?_
          rintro e w5 ⟨rfl, hc5⟩
          have HO5 := Lib.hid (HO4.out.quiet hc5)
          have HR5 := Lib.hid (HR4.out.quiet hc5)
          have HLn := HO5.out.len
          rw [hn, show (((n + 1 : Nat) : Int)) = (n : Int) + 1 from rfl] at HLn
          have HLn := Lib.hid HLn
          obtain ⟨g, gc, hge, _, _, _, _, m0⟩ := HR5.out.cell hx
          obtain ⟨g', gc', hge', _, _, _, _, m1⟩ := HR5.out.cell hy
          have hn64 : n + 1 ≤ 64 := by have := HO5.out.le; rw [hn] at this; omega
          have HNl := Lib.hid hn
          rw [hn] at hge hge'
          obtain ⟨rfl, rfl⟩ : am = some ⟨g, 0, none⟩ ∧ cm = gc := by simpa using hge
          obtain ⟨rfl, rfl⟩ : g = g' ∧ cm = gc' := by simpa using hge'
          have hpos : decide ((0 : Int) < (n : Int) + 1) = true := decide_eq_true (by omega)
          have hp1 : (0 : Int) < (n : Int) + 1 := by omega
          have hxx : (x != x) = false := by simp
          have hyy : (y != y) = false := by simp
          have hs1 : IntKind.i64.wrap ((n : Int) + 1 - 1) = (n : Int) := by rw [IntKind.wrap_i64]; omega
          have hs2 : IntKind.i64.wrap (n : Int) = (n : Int) := by rw [IntKind.wrap_i64]; omega
          have hn0 : (0 : Int) ≤ (n : Int) := by omega
          have hn1 : (n : Int) < (n : Int) + 1 := by omega
          clear hge hge' hn hx hy hox hny
          clear hc5 HNw
          go_wp2_with fail
          with_reducible refine HLn.out.mono ?_
          rintro e w5' ⟨rfl, hww⟩
          subst w5'
          clear m0 m1 hpos hp1 hxx hyy hs1 hs2 hn0 hn1
          have HLi := Lib.hid HO5.out.list
          have hll : (((n : Int) + 1) != ((n : Int) + 1)) = false := by simp
          clear HLn
          go_wp2_with fail
          with_reducible refine HLi.out.mono ?_
          rintro e w6 ⟨v6, rfl, hr6, hc6⟩
          obtain ⟨a6, c6, rfl⟩ := own_form hr6
          rw [HNl.out]
          have HR6 := Lib.hid (HR5.out.quiet hc6)
          have HO6 := Lib.hid (HO5.out.quiet hc6)
          have HSm := same_eq a6 (some ⟨g, 0, none⟩) c6 cm X2 w6 (by have := HO6.out.le; omega) (own_KAt hr6).2 (own_KAt HR6.out).2
          rw [HNl.out] at HSm
          have HSm := Lib.hid HSm
          clear hr6 hc6 HLi
          go_wp2_with fail
          with_reducible refine HSm.out.mono ?_
          rintro e w7 ⟨rfl, nq, hw7⟩
          have hc7 : Ch [] w6 w7 := by rw [hw7]; exact (Ch.refl [] w6).drewN nq
          have HO7 := Lib.hid (HO6.out.quiet hc7)
          have HR7 := Lib.hid (HR6.out.quiet hc7)
          obtain ⟨bk, hbk⟩ : ∃ bk, decide (k ∈ X2) = bk := ⟨_, rfl⟩
          have HHs := Lib.hid (HO7.out.has HK.out hbk)
          have HBk := Lib.hid hbk
          clear hw7 hc7 hbk HSm HO6 HR6
          go_wp2_with fail
          with_reducible refine HHs.out.mono ?_
          rintro e w8 ⟨rfl, hc8⟩
          have HO8 := Lib.hid (HO7.out.quiet hc8)
          have HR8 := Lib.hid (HR7.out.quiet hc8)
          have HFi := Lib.hid (rfind_any HR8.out (by have := HO8.out.le; omega) HBk.out)
          clear hc8 HHs
          go_wp2_with fail
          with_reducible refine HFi.out.mono ?_
          rintro e w9 ⟨⟨z, hz, rfl⟩, hww⟩
          subst w9
          have hkk : (bk != bk) = false := by simp
          clear HFi
          go_wp2
          go_roundw
          case rel => exact ⟨i + 1, X2, by omega, by omega, by go_num, HR8.out, HO8.out⟩
          case measure => simp [intOf]; omega
      | false =>
        have HD := Lib.hid (rtouch_any (k := K) (room := room) HRa.out HOa.out.nodup (by have := HOa.out.le; omega) (by have := HOa.out.lt; omega))
        obtain ⟨X2, e2, ht⟩ : ∃ X2 e2, tch room X K = (X2, e2) := ⟨_, _, rfl⟩
        rw [ht] at HD
        simp only at HD
        have HT := Lib.hid ht
        clear ht
        go_wp2_with fail
        rw [HWa.out]
        have b0 := HBx.out.c0
        have b1 := HBx.out.c1
        clear HWa
        go_wp2_with fail
        with_reducible refine HD.out.mono ?_
        rintro e w2 ⟨vm2, rfl, hr2', hc2⟩
        have b1' := (HBx.out.ch hc2 (by simp)).c1
        have HR2 := Lib.hid hr2'
        have HDr := Lib.hid ((HOa.out.quiet hc2).touch1 HWk.out 3 (by omega) (X := X2) (e := (e2 : Int)) (by rw [HT.out]) (by rw [HT.out]))
        have hbb : ((e2 : Int) != (e2 : Int)) = false := by simp
        clear hr2' hc2 b0 b1 HD HR HO HOa HRa HBx c0 c1
        go_wp2_with fail
        with_reducible refine HDr.out.mono ?_
        rintro e w3 ⟨rfl, ho3, hc3⟩
        have HO3 := Lib.hid ho3
        have HR3 := Lib.hid (HR2.out.ch hc3 (by simp))
        clear ho3 hc3 b1' HDr HR2 HT
        obtain ⟨am, cm, hvm⟩ := own_form HR3.out
        by_cases hX0 : X2 = []
        · subst hX0
          subst hvm
          rw [show ([] : List Int).length = 0 from rfl] at *
          have HOl := Lib.hid (ol_oldest HO3.out (x := 0) (b := false) rfl rfl)
          go_wp2_with fail
          with_reducible refine HOl.out.mono ?_
          rintro e w4 ⟨rfl, hc4⟩
          have HO4 := Lib.hid (HO3.out.quiet hc4)
          have HR4 := Lib.hid (HR3.out.quiet hc4)
          have HNw := Lib.hid (ol_newest HO4.out (x := 0) (b := false) rfl rfl)
          clear hc4 HOl hbb
          go_wp2_with fail
          with_reducible refine HNw.out.mono ?_
          rintro e w5 ⟨rfl, hc5⟩
          have HO5 := Lib.hid (HO4.out.quiet hc5)
          have HR5 := Lib.hid (HR4.out.quiet hc5)
          have HLn := HO5.out.len
          rw [show ([] : List Int).length = 0 from rfl] at HLn
          have HLn := Lib.hid HLn

          clear hc5 HNw
          go_wp2_with fail
          with_reducible refine HLn.out.mono ?_
          rintro e w5' ⟨rfl, hww⟩
          subst w5'

          have HLi := Lib.hid HO5.out.list

          clear HLn
          go_wp2_with fail
          with_reducible refine HLi.out.mono ?_
          rintro e w6 ⟨v6, rfl, hr6, hc6⟩
          obtain ⟨a6, c6, rfl⟩ := own_form hr6

          have HR6 := Lib.hid (HR5.out.quiet hc6)
          have HO6 := Lib.hid (HO5.out.quiet hc6)
          have HSm := same_eq a6 am c6 cm [] w6 (by have := HO6.out.le; omega) (own_KAt hr6).2 (own_KAt HR6.out).2
          rw [show ([] : List Int).length = 0 from rfl] at HSm
          have HSm := Lib.hid HSm
          clear hr6 hc6 HLi
          go_wp2_with fail
          with_reducible refine HSm.out.mono ?_
          rintro e w7 ⟨rfl, nq, hw7⟩
          have hc7 : Ch [] w6 w7 := by rw [hw7]; exact (Ch.refl [] w6).drewN nq
          have HO7 := Lib.hid (HO6.out.quiet hc7)
          have HR7 := Lib.hid (HR6.out.quiet hc7)
          obtain ⟨bk, hbk⟩ : ∃ bk, decide (k ∈ []) = bk := ⟨_, rfl⟩
          have HHs := Lib.hid (HO7.out.has HK.out hbk)
          have HBk := Lib.hid hbk
          clear hw7 hc7 hbk HSm HO6 HR6
          go_wp2_with fail
          with_reducible refine HHs.out.mono ?_
          rintro e w8 ⟨rfl, hc8⟩
          have HO8 := Lib.hid (HO7.out.quiet hc8)
          have HR8 := Lib.hid (HR7.out.quiet hc8)
          have HFi := Lib.hid (rfind_any HR8.out (by have := HO8.out.le; omega) HBk.out)
          clear hc8 HHs
          go_wp2_with fail
          with_reducible refine HFi.out.mono ?_
          rintro e w9 ⟨⟨z, hz, rfl⟩, hww⟩
          subst w9
          have hkk : (bk != bk) = false := by simp
          clear HFi
          go_wp2
          go_roundw
          case rel => exact ⟨i + 1, [], by omega, by omega, by go_num, HR8.out, HO8.out⟩
          case measure => simp [intOf]; omega
        · obtain ⟨n, x, y, hn, hx, hy, hox, hny⟩ := ends_of hX0
          rw [hn] at hvm
          subst hvm
          clear hX0
          have HOl := Lib.hid (ol_oldest HO3.out (x := x) (b := true) hox (by rw [hn]; simp))
          go_wp2_with fail
          with_reducible refine HOl.out.mono ?_
          rintro e w4 ⟨rfl, hc4⟩
          have HO4 := Lib.hid (HO3.out.quiet hc4)
          have HR4 := Lib.hid (HR3.out.quiet hc4)
          have HNw := Lib.hid (ol_newest HO4.out (x := y) (b := true) hny (by rw [hn]; simp))
          clear hc4 HOl hbb
          go_wp2_with fail
          with_reducible refine HNw.out.mono ?_
          rintro e w5 ⟨rfl, hc5⟩
          have HO5 := Lib.hid (HO4.out.quiet hc5)
          have HR5 := Lib.hid (HR4.out.quiet hc5)
          have HLn := HO5.out.len
          rw [hn, show (((n + 1 : Nat) : Int)) = (n : Int) + 1 from rfl] at HLn
          have HLn := Lib.hid HLn
          obtain ⟨g, gc, hge, _, _, _, _, m0⟩ := HR5.out.cell hx
          obtain ⟨g', gc', hge', _, _, _, _, m1⟩ := HR5.out.cell hy
          have hn64 : n + 1 ≤ 64 := by have := HO5.out.le; rw [hn] at this; omega
          have HNl := Lib.hid hn
          rw [hn] at hge hge'
          obtain ⟨rfl, rfl⟩ : am = some ⟨g, 0, none⟩ ∧ cm = gc := by simpa using hge
          obtain ⟨rfl, rfl⟩ : g = g' ∧ cm = gc' := by simpa using hge'
          have hpos : decide ((0 : Int) < (n : Int) + 1) = true := decide_eq_true (by omega)
          have hp1 : (0 : Int) < (n : Int) + 1 := by omega
          have hxx : (x != x) = false := by simp
          have hyy : (y != y) = false := by simp
          have hs1 : IntKind.i64.wrap ((n : Int) + 1 - 1) = (n : Int) := by rw [IntKind.wrap_i64]; omega
          have hs2 : IntKind.i64.wrap (n : Int) = (n : Int) := by rw [IntKind.wrap_i64]; omega
          have hn0 : (0 : Int) ≤ (n : Int) := by omega
          have hn1 : (n : Int) < (n : Int) + 1 := by omega
          clear hge hge' hn hx hy hox hny
          clear hc5 HNw
          go_wp2_with fail
          with_reducible refine HLn.out.mono ?_
          rintro e w5' ⟨rfl, hww⟩
          subst w5'
          clear m0 m1 hpos hp1 hxx hyy hs1 hs2 hn0 hn1
          have HLi := Lib.hid HO5.out.list
          have hll : (((n : Int) + 1) != ((n : Int) + 1)) = false := by simp
          clear HLn
          go_wp2_with fail
          with_reducible refine HLi.out.mono ?_
          rintro e w6 ⟨v6, rfl, hr6, hc6⟩
          obtain ⟨a6, c6, rfl⟩ := own_form hr6
          rw [HNl.out]
          have HR6 := Lib.hid (HR5.out.quiet hc6)
          have HO6 := Lib.hid (HO5.out.quiet hc6)
          have HSm := same_eq a6 (some ⟨g, 0, none⟩) c6 cm X2 w6 (by have := HO6.out.le; omega) (own_KAt hr6).2 (own_KAt HR6.out).2
          rw [HNl.out] at HSm
          have HSm := Lib.hid HSm
          clear hr6 hc6 HLi
          go_wp2_with fail
          with_reducible refine HSm.out.mono ?_
          rintro e w7 ⟨rfl, nq, hw7⟩
          have hc7 : Ch [] w6 w7 := by rw [hw7]; exact (Ch.refl [] w6).drewN nq
          have HO7 := Lib.hid (HO6.out.quiet hc7)
          have HR7 := Lib.hid (HR6.out.quiet hc7)
          obtain ⟨bk, hbk⟩ : ∃ bk, decide (k ∈ X2) = bk := ⟨_, rfl⟩
          have HHs := Lib.hid (HO7.out.has HK.out hbk)
          have HBk := Lib.hid hbk
          clear hw7 hc7 hbk HSm HO6 HR6
          go_wp2_with fail
          with_reducible refine HHs.out.mono ?_
          rintro e w8 ⟨rfl, hc8⟩
          have HO8 := Lib.hid (HO7.out.quiet hc8)
          have HR8 := Lib.hid (HR7.out.quiet hc8)
          have HFi := Lib.hid (rfind_any HR8.out (by have := HO8.out.le; omega) HBk.out)
          clear hc8 HHs
          go_wp2_with fail
          with_reducible refine HFi.out.mono ?_
          rintro e w9 ⟨⟨z, hz, rfl⟩, hww⟩
          subst w9
          have hkk : (bk != bk) = false := by simp
          clear HFi
          go_wp2
          go_roundw
          case rel => exact ⟨i + 1, X2, by omega, by omega, by go_num, HR8.out, HO8.out⟩
          case measure => simp [intOf]; omega
    · have hgd : ¬ (i : Int) < (len : Int) ∨ ¬ (i : Int) < 100 := by
        by_cases h : i < len
        · exact .inr (by omega)
        · exact .inl (by omega)
      have HE := Lib.hid HO.out.ch
      clear hgo
      rcases hgd with h | h
      · go_wp2_with fail
        with_reducible refine (known_any _).mono ?_
        rintro e w2 ⟨rfl, hc2⟩
        have HC := Lib.hid (HE.out.trans hc2)
        clear hc2
        go_wp2_with fail
        go_ret
        exact ⟨rfl, HC.out⟩
      · by_cases hlt : (i : Int) < (len : Int)
        · go_wp2_with fail
          with_reducible refine (known_any _).mono ?_
          rintro e w2 ⟨rfl, hc2⟩
          have HC := Lib.hid (HE.out.trans hc2)
          clear hc2
          go_wp2_with fail
          go_ret
          exact ⟨rfl, HC.out⟩
        · go_wp2_with fail
          with_reducible refine (known_any _).mono ?_
          rintro e w2 ⟨rfl, hc2⟩
          have HC := Lib.hid (HE.out.trans hc2)
          clear hc2
          go_wp2_with fail
          go_ret
          exact ⟨rfl, HC.out⟩
end Go.Proofs.Ytediabcgeghogaa

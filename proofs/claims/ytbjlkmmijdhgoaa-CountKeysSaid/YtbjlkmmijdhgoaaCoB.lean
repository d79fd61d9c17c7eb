/-
  The document's answer for a count: New, Get, Put; the chapter's examples.
-/
import Derived.Test.YtbjlkmmijdhgoaaCoA
namespace Go.Proofs.Ytbjlkmmijdhgoaa
open Go.RowKit

attribute [local go_sem] Oper.semAt_some

/-- A box of a number, its top, and whether it sticks. -/
structure Box3 (w : World) (b : Nat) (n top : Int) (s : Bool) : Prop where
  c0 : w.cell? ⟨b, 0, none⟩ = some (.int .i64 n)
  c1 : w.cell? ⟨b, 1, none⟩ = some (.int .i64 top)
  c2 : w.cell? ⟨b, 2, none⟩ = some (.bool s)
  f0 : w.frozen? ⟨b, 0, none⟩ = false
  f1 : w.frozen? ⟨b, 1, none⟩ = false
  f2 : w.frozen? ⟨b, 2, none⟩ = false
theorem Box3.new (w : World) (n top : Int) (s : Bool) (t : TypeId) : Box3 (w.alloc (.cells #[.int .i64 n, .int .i64 top, .bool s] t)) w.heap.size n top s :=
  ⟨by rw [World.cell?_alloc_at _ _ _ _ rfl]; rfl, by rw [World.cell?_alloc_at _ _ _ _ rfl]; rfl, by rw [World.cell?_alloc_at _ _ _ _ rfl]; rfl, World.frozen?_alloc_new w _ _ _, World.frozen?_alloc_new w _ _ _, World.frozen?_alloc_new w _ _ _⟩
theorem Box3.lt {w : World} {b : Nat} {n top : Int} {s : Bool} (h : Box3 w b n top s) : b < w.heap.size := cell_lt h.c0
theorem Box3.ch {S : List Nat} {w w' : World} {b : Nat} {n top : Int} {s : Bool} (h : Box3 w b n top s) (hc : Ch S w w') (hb : b ∉ S) : Box3 w' b n top s :=
  ⟨(hc.cell (p := ⟨b, 0, none⟩) h.lt hb).trans h.c0, (hc.cell (p := ⟨b, 1, none⟩) h.lt hb).trans h.c1, (hc.cell (p := ⟨b, 2, none⟩) h.lt hb).trans h.c2, (hc.frozen (p := ⟨b, 0, none⟩) h.lt hb).trans h.f0, (hc.frozen (p := ⟨b, 1, none⟩) h.lt hb).trans h.f1, (hc.frozen (p := ⟨b, 2, none⟩) h.lt hb).trans h.f2⟩
theorem Box3.alloc {w : World} {b : Nat} {n top : Int} {s : Bool} (h : Box3 w b n top s) (o : Obj) : Box3 (w.alloc o) b n top s := h.ch ((Ch.refl [] w).alloc o) (by simp)
theorem Box3.set {w : World} {b : Nat} {n top : Int} {s : Bool} (h : Box3 w b n top s) (n' top' : Int) (s' : Bool) : Box3 (((w.setCell ⟨b, 0, none⟩ (.int .i64 n')).setCell ⟨b, 1, none⟩ (.int .i64 top')).setCell ⟨b, 2, none⟩ (.bool s')) b n' top' s' :=
  ⟨setCell_other (setCell_other (setCell_same h.c0) (addr_ne_off (by decide))) (addr_ne_off (by decide)), setCell_other (setCell_same (setCell_other h.c1 (addr_ne_off (by decide)))) (addr_ne_off (by decide)),
    setCell_same (setCell_other (setCell_other h.c2 (addr_ne_off (by decide))) (addr_ne_off (by decide))), by simpa using h.f0, by simpa using h.f1, by simpa using h.f2⟩
theorem chSet3 {S : List Nat} {a w : World} (h : Ch S a w) {b : Nat} (hp : b ∈ S ∨ a.heap.size ≤ b) (u v x : Value) : Ch S a (((w.setCell ⟨b, 0, none⟩ u).setCell ⟨b, 1, none⟩ v).setCell ⟨b, 2, none⟩ x) :=
  ((h.setCell2 (p := ⟨b, 0, none⟩) hp u).setCell2 (p := ⟨b, 1, none⟩) hp v).setCell2 (p := ⟨b, 2, none⟩) hp x

/-- A row of bools that came in. -/
def BoolsAt (w : World) (a : Option Addr) (len : Nat) : Prop := len = 0 ∨ ∃ b off, a = some ⟨b, off, none⟩ ∧ ∀ i, i < len → ∃ x, w.cell? ⟨b, off + i, none⟩ = some (.bool x)
theorem BoolsAt.below {w w' : World} {a : Option Addr} {len : Nat} (h : BoolsAt w a len) (hc : Ch [] w w') : BoolsAt w' a len := by
  rcases h with h | ⟨b, off, e, h⟩
  · exact .inl h
  · exact .inr ⟨b, off, e, fun i hi => by obtain ⟨x, hx⟩ := h i hi; exact ⟨x, (hc.cell (p := ⟨b, off + i, none⟩) (cell_lt hx) (by simp)).trans hx⟩⟩

/-- A count's three parts, as one value. -/
abbrev cv (n top : Int) (s : Bool) : Value := .agg #[.int .i64 n, .int .i64 top, .bool s]

theorem rnew_any (n top : Int) (w : World) : Calls Try.prog 10 #[.int .i64 n, .int .i64 top] w fun e w' => e = .returned (.int .i64 (newE n top)) ∧ w' = w := by
  by_cases h0 : top < 1
  · have hd1 : decide (top < 1) = true := by simpa using h0
    have e0 : newE n top = 2 := by simp [newE, h0]
    rw [e0]
    clear e0
    go_enter Try.func10, Try.ntmps10
    go_wp2
    go_ret
    exact ⟨rfl, rfl⟩
  · have hd1 : decide (top < 1) = false := by simpa using h0
    by_cases h1 : 65535 < top
    · have hd2 : decide (65535 < top) = true := by simpa using h1
      have e0 : newE n top = 2 := by simp [newE, h1]
      rw [e0]
      clear e0
      go_enter Try.func10, Try.ntmps10
      go_wp2
      go_ret
      exact ⟨rfl, rfl⟩
    · have hd2 : decide (65535 < top) = false := by simpa using h1
      by_cases h2 : n < 0
      · have hd3 : decide (n < 0) = true := by simpa using h2
        have e0 : newE n top = 2 := by simp [newE, h2]
        rw [e0]
        clear e0
        go_enter Try.func10, Try.ntmps10
        go_wp2
        go_ret
        exact ⟨rfl, rfl⟩
      · have hd3 : decide (n < 0) = false := by simpa using h2
        by_cases h3 : top < n
        · have hd4 : decide (top < n) = true := by simpa using h3
          have e0 : newE n top = 2 := by simp [newE, h3]
          rw [e0]
          clear e0
          go_enter Try.func10, Try.ntmps10
          go_wp2
          go_ret
          exact ⟨rfl, rfl⟩
        · have hd4 : decide (top < n) = false := by simpa using h3
          have e0 : newE n top = 0 := by unfold newE; rw [if_neg (by omega)]
          rw [e0]
          clear e0
          go_enter Try.func10, Try.ntmps10
          go_wp2
          go_ret
          exact ⟨rfl, rfl⟩

/-- What the two boxes of an answer's call are, at its start. -/
theorem two_boxes (w : World) (n top : Int) (s : Bool) (t : TypeId) : Box3 ((w.alloc (.cells #[.int .i64 n, .int .i64 top, .bool s] t)).alloc (.cells #[.int .i64 0, .int .i64 0, .bool false] t)) w.heap.size n top s ∧
    Box3 ((w.alloc (.cells #[.int .i64 n, .int .i64 top, .bool s] t)).alloc (.cells #[.int .i64 0, .int .i64 0, .bool false] t)) (w.heap.size + 1) 0 0 false := by
  refine ⟨(Box3.new w n top s t).alloc _, ?_⟩
  have := Box3.new (w.alloc (.cells #[.int .i64 n, .int .i64 top, .bool s] t)) 0 0 false t
  rwa [World.size_alloc] at this

theorem rget_any (n top : Nat) (s : Bool) (w : World) (ht : top ≤ 65535) (hn : n ≤ top) (hs : s = true → n = top) :
    Calls Try.prog 12 #[cv n top s] w fun e w' => e = .returned (.tuple #[cv (getN n top s).1 top (getN n top s).2.1, .int .i64 (getN n top s).2.2]) ∧ Ch [] w w' := by
  obtain ⟨hA, hB⟩ := two_boxes w n top s 30
  have HC := Lib.hid (((Ch.refl [] w).alloc (.cells #[.int .i64 (n : Int), .int .i64 (top : Int), .bool s] 30)).alloc (.cells #[.int .i64 0, .int .i64 0, .bool false] 30))
  have a0 := hA.c0
  have a1 := hA.c1
  have a2 := hA.c2
  have b0 := hB.f0
  have b1 := hB.f1
  have b2 := hB.f2
  have HB := Lib.hid hB
  clear hA hB
  by_cases h0 : n = 0
  · have hd : ((n : Int) == 0) = true := by simp [h0]
    have e0 : getN n top s = (n, s, 4) := by simp [getN, h0]
    rw [e0]
    clear e0 h0
    go_enter Try.func12, Try.ntmps12
    go_wp2
    refine bodyPost_ret (v := .tuple #[cv n top s, .int .i64 4]) ?_ rfl ?_
    · simp [results, Try.f12, go_sem]
    · exact ⟨rfl, ((Ch.refl [] w).alloc _).alloc _⟩
  · have hd : ((n : Int) == 0) = false := by simp [h0]
    by_cases h1 : n = top
    · obtain rfl := h1
      have e0 : getN n n s = (n, true, 13) := by simp [getN, h0]
      rw [e0]
      clear e0 h0
      cases s with
      | true =>
        go_enter Try.func12, Try.ntmps12
        go_wp2
        refine bodyPost_ret (v := .tuple #[cv n n true, .int .i64 13]) ?_ rfl ?_
        · simp [results, Try.f12, go_sem]
        · exact ⟨rfl, ((Ch.refl [] w).alloc _).alloc _⟩
      | false =>
        go_enter Try.func12, Try.ntmps12
        go_wp2
        refine bodyPost_ret (v := .tuple #[cv n n true, .int .i64 13]) ?_ rfl ?_
        · simp [results, Try.f12, go_sem]
        · exact ⟨rfl, ((Ch.refl [] w).alloc _).alloc _⟩
    · have e0 : getN n top s = (n + 1, s, 0) := by simp [getN, h0, h1]
      rw [e0]
      have hd2 : ((n : Int) == (top : Int)) = false := by simp; omega
      obtain rfl : s = false := by cases s; rfl; exact absurd (hs rfl) h1
      have hw : IntKind.i64.wrap ((n : Int) + 1) = (n : Int) + 1 := by rw [IntKind.wrap_i64]; omega
      clear e0 h0 h1
      go_enter Try.func12, Try.ntmps12
      go_wp2
      refine bodyPost_ret (v := .tuple #[cv ((n : Int) + 1) top false, .int .i64 0]) ?_ rfl ?_
      · simp [results, Try.f12, go_sem]
      · exact ⟨rfl, ((Ch.refl [] w).alloc _).alloc _⟩

theorem rput_any (n top : Nat) (s : Bool) (w : World) (ht : top ≤ 65535) (hn : n ≤ top) (hs : s = true → n = top) :
    Calls Try.prog 14 #[cv n top s] w fun e w' => e = .returned (.tuple #[cv (putN n s).1 top s, .bool (putN n s).2.1, .int .i64 (putN n s).2.2]) ∧ Ch [] w w' := by
  obtain ⟨hA, hB⟩ := two_boxes w n top s 30
  have a0 := hA.c0
  have a1 := hA.c1
  have a2 := hA.c2
  have b0 := hB.f0
  have b1 := hB.f1
  have b2 := hB.f2
  have HB := Lib.hid hB
  have HC := Lib.hid (((Ch.refl [] w).alloc (.cells #[.int .i64 (n : Int), .int .i64 (top : Int), .bool s] 30)).alloc (.cells #[.int .i64 0, .int .i64 0, .bool false] 30))
  clear hA hB
  by_cases h0 : n = 0
  · have hd : ((n : Int) == 0) = true := by simp [h0]
    have e0 : putN n s = (n, false, 4) := by simp [putN, h0]
    rw [e0]
    clear e0 h0
    go_enter Try.func14, Try.ntmps14
    go_wp2
    refine bodyPost_ret (v := .tuple #[cv n top s, .bool false, .int .i64 4]) ?_ rfl ?_
    · simp [results, Try.f14, go_sem]
    · exact ⟨rfl, ((Ch.refl [] w).alloc _).alloc _⟩
  · have hd : ((n : Int) == 0) = false := by simp [h0]
    cases s with
    | true =>
      obtain rfl := hs rfl
      have e0 : putN n true = (n, false, 0) := by simp [putN, h0]
      rw [e0]
      clear e0 h0
      go_enter Try.func14, Try.ntmps14
      go_wp2
      refine bodyPost_ret (v := .tuple #[cv n n true, .bool false, .int .i64 0]) ?_ rfl ?_
      · simp [results, Try.f14, go_sem]
      · exact ⟨rfl, ((Ch.refl [] w).alloc _).alloc _⟩
    | false =>
      have e0 : putN n false = (n - 1, n == 1, 0) := by simp [putN, h0]
      rw [e0]
      have hw : IntKind.i64.wrap ((n : Int) - 1) = ((n - 1 : Nat) : Int) := by rw [IntKind.wrap_i64]; omega
      have hx : (n == 1) = ((n : Int) == 1) := by rw [Bool.eq_iff_iff]; simp; omega
      rw [hx]
      generalize n - 1 = m at *
      clear e0 h0 hx
      go_enter Try.func14, Try.ntmps14
      go_wp2_with fail
      go_region
      go_wp2
      refine bodyPost_ret (v := .tuple #[cv m top false, .bool ((n : Int) == 1), .int .i64 0]) ?_ rfl ?_
      · simp [results, Try.f14, go_sem]
      · exact ⟨rfl, (((Ch.refl [] w).alloc _).alloc _).drew⟩

theorem new12 (w : World) (S : Nat) (hS : w.heap.size = S) :
    Calls Try.prog 9 #[.int .i64 1, .int .i64 2] w fun e w' => e = .returned (.tuple #[.pointer (some ⟨S, 0, none⟩), .int .i64 0]) ∧ Cnt w' S 1 2 false ∧ Ch [] w w' ∧ w'.heap.size = S + 1 := new_ok 1 2 w S hS (by decide) (by decide) (by decide)
theorem get_at {w : World} {b n top : Nat} {s : Bool} (h : Cnt w b n top s) {m : Nat} {t : Bool} {e : Int} (he : getN n top s = (m, t, e)) :
    Calls Try.prog 13 #[.pointer (some ⟨b, 0, none⟩)] w fun r w' => r = .returned (.int .i64 e) ∧ Cnt w' b m top t ∧ Ch [b] w w' ∧ w'.heap.size = w.heap.size := by
  have := get_any h
  rw [he] at this
  exact this
theorem put_at {w : World} {b n top : Nat} {s : Bool} (h : Cnt w b n top s) {m : Nat} {t : Bool} {e : Int} (he : putN n s = (m, t, e)) :
    Calls Try.prog 15 #[.pointer (some ⟨b, 0, none⟩)] w fun r w' => r = .returned (.tuple #[.bool t, .int .i64 e]) ∧ Cnt w' b m top s ∧ Ch [b] w w' ∧ w'.heap.size = w.heap.size := by
  have := put_any h
  rw [he] at this
  exact this
theorem value_at {w : World} {b n top : Nat} {s : Bool} (h : Cnt w b n top s) {z : Int} (hz : (n : Int) = z) :
    Calls Try.prog 16 #[.pointer (some ⟨b, 0, none⟩)] w fun e w' => e = .returned (.int .i64 z) ∧ w' = w := by subst hz; exact value_any h

/-- A count of the call's own is turned: nothing of what there was turns. -/
theorem ch_own {w w' a : World} {b : Nat} (h : Ch [] a w) (hc : Ch [b] w w') (hb : a.heap.size ≤ b) : Ch [] a w' :=
  ⟨hc.os.trans h.os, hc.tape.trans h.tape, hc.output.trans h.output, Nat.le_trans h.size hc.size, fun k hk hn => (hc.block k (Nat.lt_of_lt_of_le hk h.size) (by simp; omega)).trans (h.block k hk hn)⟩

theorem known_any (w : World) : Calls Try.prog 11 #[] w fun e w' => e = .returned (.bool true) ∧ Ch [] w w' := by
  obtain ⟨S, hS⟩ : ∃ S, w.heap.size = S := ⟨_, rfl⟩
  have HS := Lib.hid hS
  clear hS
  go_enter Try.func11, Try.ntmps11
  go_wp2_with fail
  with_reducible refine (new12 w S HS.out).mono ?_
  rintro e w1 ⟨rfl, hx1, hc1, hz1⟩
  have HX1 := Lib.hid hx1
  have HC1 := Lib.hid hc1
  clear hx1 hc1 hz1
  go_wp2_with fail
  with_reducible refine (get_at HX1.out (m := 2) (t := false) (e := 0) (by decide)).mono ?_
  rintro e w2 ⟨rfl, hx2, hc2, -⟩
  have HX2 := Lib.hid hx2
  have HC2 := Lib.hid (ch_own HC1.out hc2 (by rw [HS.out]; exact Nat.le_refl _))
  clear hx2 hc2 HX1 HC1
  go_wp2_with fail
  with_reducible refine (get_at HX2.out (m := 2) (t := true) (e := 13) (by decide)).mono ?_
  rintro e w3 ⟨rfl, hx3, hc3, -⟩
  have HX3 := Lib.hid hx3
  have HC3 := Lib.hid (ch_own HC2.out hc3 (by rw [HS.out]; exact Nat.le_refl _))
  clear hx3 hc3 HX2 HC2
  go_wp2_with fail
  with_reducible refine (value_at HX3.out (z := 2) (by decide)).mono ?_
  rintro e w4 ⟨rfl, rfl⟩
  go_wp2_with fail
  with_reducible refine (stuck_any HX3.out).mono ?_
  rintro e w5 ⟨rfl, rfl⟩
  obtain ⟨T, hT⟩ : ∃ T, w5.heap.size = T := ⟨_, rfl⟩
  have HT := Lib.hid hT
  clear hT HX3
  go_wp2_with fail
  with_reducible refine (new12 w5 T HT.out).mono ?_
  rintro e w6 ⟨rfl, hx6, hc6, hz6⟩
  have HX6 := Lib.hid hx6
  have HC6 := Lib.hid (HC3.out.trans hc6)
  have HB := Lib.hid (show w.heap.size ≤ T by rw [← HT.out]; exact HC3.out.size)
  clear hx6 hc6 hz6 HC3
  go_wp2_with fail
  with_reducible refine (put_at HX6.out (m := 0) (t := true) (e := 0) (by decide)).mono ?_
  rintro e w7 ⟨rfl, hx7, hc7, -⟩
  have HX7 := Lib.hid hx7
  have HC7 := Lib.hid (ch_own HC6.out hc7 HB.out)
  clear hx7 hc7 HX6 HC6
  go_wp2_with fail
  with_reducible refine (get_at HX7.out (m := 0) (t := false) (e := 4) (by decide)).mono ?_
  rintro e w8 ⟨rfl, hx8, hc8, -⟩
  have HC8 := Lib.hid (ch_own HC7.out hc8 HB.out)
  clear hx8 hc8 HX7 HC7
  go_wp2
  go_ret
  exact ⟨rfl, HC8.out⟩
end Go.Proofs.Ytbjlkmmijdhgoaa

/-
  A count: New, Get, Put, Value, Stuck.
-/
import Derived.Test.YtbjlkmmijdhgoaaBase
namespace Go.Proofs.Ytbjlkmmijdhgoaa
open Go.RowKit

attribute [local go_sem] Oper.semAt_some

/-- A count in block b. -/
structure Cnt (w : World) (b : Nat) (n top : Nat) (s : Bool) : Prop where
  c0 : w.cell? ⟨b, 0, none⟩ = some (.int .i64 (n : Int))
  c1 : w.cell? ⟨b, 1, none⟩ = some (.int .i64 (top : Int))
  c2 : w.cell? ⟨b, 2, none⟩ = some (.bool s)
  f0 : w.frozen? ⟨b, 0, none⟩ = false
  f2 : w.frozen? ⟨b, 2, none⟩ = false
  ht : top ≤ 65535
  hn : n ≤ top
  h1 : 1 ≤ top
  hs : s = true → n = top
theorem Cnt.lt {w : World} {b n top : Nat} {s : Bool} (h : Cnt w b n top s) : b < w.heap.size := cell_lt h.c0
theorem Cnt.ch {S : List Nat} {w w' : World} {b n top : Nat} {s : Bool} (h : Cnt w b n top s) (hc : Ch S w w') (hb : b ∉ S) : Cnt w' b n top s :=
  ⟨(hc.cell (p := ⟨b, 0, none⟩) h.lt hb).trans h.c0, (hc.cell (p := ⟨b, 1, none⟩) h.lt hb).trans h.c1, (hc.cell (p := ⟨b, 2, none⟩) h.lt hb).trans h.c2, (hc.frozen (p := ⟨b, 0, none⟩) h.lt hb).trans h.f0, (hc.frozen (p := ⟨b, 2, none⟩) h.lt hb).trans h.f2, h.ht, h.hn, h.h1, h.hs⟩
theorem Cnt.new (w : World) (n top : Nat) (s : Bool) (t : TypeId) (ht : top ≤ 65535) (hn : n ≤ top) (h1 : 1 ≤ top) (hs : s = true → n = top) : Cnt (w.alloc (.cells #[.int .i64 (n : Int), .int .i64 (top : Int), .bool s] t)) w.heap.size n top s :=
  ⟨by rw [World.cell?_alloc_at _ _ _ _ rfl]; rfl, by rw [World.cell?_alloc_at _ _ _ _ rfl]; rfl, by rw [World.cell?_alloc_at _ _ _ _ rfl]; rfl, World.frozen?_alloc_new w _ _ _, World.frozen?_alloc_new w _ _ _, ht, hn, h1, hs⟩
theorem Cnt.num {w : World} {b n top : Nat} {s : Bool} (h : Cnt w b n top s) (m : Nat) (hm : m ≤ top) (hs : s = true → m = top) : Cnt (w.setCell ⟨b, 0, none⟩ (.int .i64 (m : Int))) b m top s :=
  ⟨setCell_same h.c0, setCell_other h.c1 (addr_ne_off (by decide)), setCell_other h.c2 (addr_ne_off (by decide)), by simpa using h.f0, by simpa using h.f2, h.ht, hm, h.h1, hs⟩
theorem Cnt.stick {w : World} {b n top : Nat} {s : Bool} (h : Cnt w b n top s) (hn : n = top) : Cnt (w.setCell ⟨b, 2, none⟩ (.bool true)) b n top true :=
  ⟨setCell_other h.c0 (addr_ne_off (by decide)), setCell_other h.c1 (addr_ne_off (by decide)), setCell_same h.c2, by simpa using h.f0, by simpa using h.f2, h.ht, h.hn, h.h1, fun _ => hn⟩

theorem Cnt.drewN {w : World} {b n top : Nat} {s : Bool} (h : Cnt w b n top s) (k : Nat) : Cnt (w.drewN k) b n top s := ⟨h.c0, h.c1, h.c2, h.f0, h.f2, h.ht, h.hn, h.h1, h.hs⟩

/-- What New tells. -/
def newE (n top : Int) : Int := if top < 1 ∨ 65535 < top ∨ n < 0 ∨ top < n then 2 else 0

theorem new_bad (n top : Int) (w : World) (h : top < 1 ∨ 65535 < top ∨ n < 0 ∨ top < n) :
    Calls Try.prog 9 #[.int .i64 n, .int .i64 top] w fun e w' => e = .returned (.tuple #[.pointer none, .int .i64 2]) ∧ w' = w := by
  by_cases h0 : top < 1
  · have hd1 : decide (top < 1) = true := by simpa using h0
    clear h
    go_enter Try.func9, Try.ntmps9
    go_wp2
    go_ret2
    exact ⟨rfl, rfl⟩
  · have hd1 : decide (top < 1) = false := by simpa using h0
    by_cases h1 : 65535 < top
    · have hd2 : decide (65535 < top) = true := by simpa using h1
      clear h
      go_enter Try.func9, Try.ntmps9
      go_wp2
      go_ret2
      exact ⟨rfl, rfl⟩
    · have hd2 : decide (65535 < top) = false := by simpa using h1
      by_cases h2 : n < 0
      · have hd3 : decide (n < 0) = true := by simpa using h2
        clear h
        go_enter Try.func9, Try.ntmps9
        go_wp2
        go_ret2
        exact ⟨rfl, rfl⟩
      · have h3 : top < n := by omega
        have hd3 : decide (n < 0) = false := by simpa using h2
        have hd4 : decide (top < n) = true := by simpa using h3
        clear h
        go_enter Try.func9, Try.ntmps9
        go_wp2
        go_ret2
        exact ⟨rfl, rfl⟩

theorem new_ok (n top : Nat) (w : World) (S : Nat) (hS : w.heap.size = S) (h1 : 1 ≤ top) (h2 : top ≤ 65535) (h3 : n ≤ top) :
    Calls Try.prog 9 #[.int .i64 (n : Int), .int .i64 (top : Int)] w fun e w' => e = .returned (.tuple #[.pointer (some ⟨S, 0, none⟩), .int .i64 0]) ∧ Cnt w' S n top false ∧ Ch [] w w' ∧ w'.heap.size = S + 1 := by
  have HC := Lib.hid (Cnt.new w n top false 73 h2 h3 h1 (by simp))
  have HB := Lib.hid ((Ch.refl [] w).alloc (.cells #[.int .i64 (n : Int), .int .i64 (top : Int), .bool false] 73))
  have HZ := Lib.hid (show (w.alloc (.cells #[.int .i64 (n : Int), .int .i64 (top : Int), .bool false] 73)).heap.size = S + 1 by simp [hS])
  rw [hS] at HC
  have HS := Lib.hid hS
  obtain ⟨N, hN⟩ : ∃ N : Int, N = (n : Int) := ⟨_, rfl⟩
  obtain ⟨T, hT⟩ : ∃ T : Int, T = (top : Int) := ⟨_, rfl⟩
  have hd1 : decide (T < 1) = false := by simp; omega
  have hd2 : decide (65535 < T) = false := by simp; omega
  have hd3 : decide (N < 0) = false := by simp; omega
  have hd4 : decide (T < N) = false := by simp; omega
  rw [← hN, ← hT] at HC HB HZ ⊢
  clear hS h1 h2 h3 hN hT
  go_enter Try.func9, Try.ntmps9
  go_wp2
  go_ret2
  rw [HS.out]
  exact ⟨rfl, HC.out, HB.out, HZ.out⟩

/-- Get, Put: how the number turns, and whether it sticks. -/
def getN (n top : Nat) (s : Bool) : Nat × Bool × Int := if n = 0 then (n, s, 4) else if n = top then (n, true, 13) else (n + 1, s, 0)
def putN (n : Nat) (s : Bool) : Nat × Bool × Int := if n = 0 then (n, false, 4) else if s then (n, false, 0) else (n - 1, n == 1, 0)

theorem get_any {w : World} {b n top : Nat} {s : Bool} (h : Cnt w b n top s) :
    Calls Try.prog 13 #[.pointer (some ⟨b, 0, none⟩)] w fun e w' => e = .returned (.int .i64 (getN n top s).2.2) ∧ Cnt w' b (getN n top s).1 top (getN n top s).2.1 ∧ Ch [b] w w' ∧ w'.heap.size = w.heap.size := by
  have c0 := h.c0
  have c1 := h.c1
  have c2 := h.c2
  have f0 := h.f0
  have f2 := h.f2
  have ht := h.ht
  have hn := h.hn
  have H := Lib.hid h
  by_cases h0 : n = 0
  · have hd : ((n : Int) == 0) = true := by simp [h0]
    have e0 : getN n top s = (n, s, 4) := by simp [getN, h0]
    rw [e0]
    clear e0 h h0
    go_enter Try.func13, Try.ntmps13
    go_wp2
    go_ret
    exact ⟨rfl, H.out, Ch.refl _ _, rfl⟩
  · have hd : ((n : Int) == 0) = false := by simp [h0]
    by_cases h1 : n = top
    · have hd2 : ((n : Int) == (top : Int)) = true := by simp [h1]
      have e0 : getN n top s = (n, true, 13) := by rw [getN, if_neg h0, if_pos h1]
      rw [e0]
      have HE := Lib.hid h1
      clear e0 h h0 h1
      go_enter Try.func13, Try.ntmps13
      go_wp2_with fail
      go_quiet (fail)
      go_wp2
      go_ret
      exact ⟨rfl, (H.out.drewN _).stick HE.out, ((Ch.refl [b] _).drewN _).setCell (p := ⟨b, 2, none⟩) (by simp) _, by simp [World.setCell]⟩
    · have hd2 : ((n : Int) == (top : Int)) = false := by simp; omega
      have e0 : getN n top s = (n + 1, s, 0) := by simp [getN, h0, h1]
      rw [e0]
      clear e0 h
      have hw : IntKind.i64.wrap ((n : Int) + 1) = (n : Int) + 1 := by rw [IntKind.wrap_i64]; omega
      go_enter Try.func13, Try.ntmps13
      go_wp2_with fail
      go_quiet (fail)
      go_wp2
      go_ret
      exact ⟨rfl, by simpa using (H.out.drewN _).num (n + 1) (by omega) (fun e => absurd (H.out.hs e) h1), ((Ch.refl [b] _).drewN _).setCell (p := ⟨b, 0, none⟩) (by simp) _, by simp [World.setCell]⟩
theorem get_nil (w : World) : Calls Try.prog 13 #[.pointer none] w fun e w' => e = .returned (.int .i64 6) ∧ w' = w := by
  go_enter Try.func13, Try.ntmps13
  go_wp2
  go_ret
  exact ⟨rfl, rfl⟩

theorem put_any {w : World} {b n top : Nat} {s : Bool} (h : Cnt w b n top s) :
    Calls Try.prog 15 #[.pointer (some ⟨b, 0, none⟩)] w fun e w' => e = .returned (.tuple #[.bool (putN n s).2.1, .int .i64 (putN n s).2.2]) ∧ Cnt w' b (putN n s).1 top s ∧ Ch [b] w w' ∧ w'.heap.size = w.heap.size := by
  have c0 := h.c0
  have c1 := h.c1
  have c2 := h.c2
  have f0 := h.f0
  have f2 := h.f2
  have ht := h.ht
  have hn := h.hn
  have H := Lib.hid h
  by_cases h0 : n = 0
  · have hd : ((n : Int) == 0) = true := by simp [h0]
    have e0 : putN n s = (n, false, 4) := by simp [putN, h0]
    rw [e0]
    clear e0 h h0
    go_enter Try.func15, Try.ntmps15
    go_wp2
    go_ret2
    exact ⟨rfl, H.out, Ch.refl _ _, rfl⟩
  · have hd : ((n : Int) == 0) = false := by simp [h0]
    cases s with
    | true =>
      have e0 : putN n true = (n, false, 0) := by simp [putN, h0]
      rw [e0]
      clear e0 h h0
      go_enter Try.func15, Try.ntmps15
      go_wp2
      go_ret2
      exact ⟨rfl, H.out, Ch.refl _ _, rfl⟩
    | false =>
      have e0 : putN n false = (n - 1, n == 1, 0) := by simp [putN, h0]
      rw [e0]
      have hw : IntKind.i64.wrap ((n : Int) - 1) = ((n - 1 : Nat) : Int) := by rw [IntKind.wrap_i64]; omega
      have hx : (n == 1) = (((n - 1 : Nat) : Int) == 0) := by rw [Bool.eq_iff_iff]; simp; omega
      rw [hx]
      have HN := Lib.hid (H.out.num (n - 1) (by omega) (by simp))
      generalize n - 1 = m at *
      clear e0 h h0 hx
      go_enter Try.func15, Try.ntmps15
      go_wp2
      go_ret2
      exact ⟨rfl, HN.out, (Ch.refl [b] _).setCell (p := ⟨b, 0, none⟩) (by simp) _, by simp [World.setCell]⟩
theorem put_nil (w : World) : Calls Try.prog 15 #[.pointer none] w fun e w' => e = .returned (.tuple #[.bool false, .int .i64 6]) ∧ w' = w := by
  go_enter Try.func15, Try.ntmps15
  go_wp2
  go_ret2
  exact ⟨rfl, rfl⟩

theorem value_any {w : World} {b n top : Nat} {s : Bool} (h : Cnt w b n top s) :
    Calls Try.prog 16 #[.pointer (some ⟨b, 0, none⟩)] w fun e w' => e = .returned (.int .i64 (n : Int)) ∧ w' = w := by
  have c0 := h.c0
  clear h
  go_enter Try.func16, Try.ntmps16
  go_wp2
  go_ret
  exact ⟨rfl, rfl⟩
theorem value_nil (w : World) : Calls Try.prog 16 #[.pointer none] w fun e w' => e = .returned (.int .i64 0) ∧ w' = w := by
  go_enter Try.func16, Try.ntmps16
  go_wp2
  go_ret
  exact ⟨rfl, rfl⟩
theorem stuck_any {w : World} {b n top : Nat} {s : Bool} (h : Cnt w b n top s) :
    Calls Try.prog 17 #[.pointer (some ⟨b, 0, none⟩)] w fun e w' => e = .returned (.bool s) ∧ w' = w := by
  have c2 := h.c2
  clear h
  go_enter Try.func17, Try.ntmps17
  go_wp2
  go_ret
  exact ⟨rfl, rfl⟩
theorem stuck_nil (w : World) : Calls Try.prog 17 #[.pointer none] w fun e w' => e = .returned (.bool false) ∧ w' = w := by
  go_enter Try.func17, Try.ntmps17
  go_wp2
  go_ret
  exact ⟨rfl, rfl⟩
end Go.Proofs.Ytbjlkmmijdhgoaa

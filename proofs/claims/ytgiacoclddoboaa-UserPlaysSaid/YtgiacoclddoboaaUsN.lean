/-
  The chapter's example holds; UserLimits.
-/
import Derived.Test.YtgiacoclddoboaaUsK
namespace Go.Proofs.Ytgiacoclddoboaa
open Go.RowKit

section
variable {w0 w : World} {b : Nat} {x : MS}
theorem UL.touch (h : UL w0 w b x) {a m p q : Int} (hr : a ≤ 9223372036854775807) (e : touchR (16 * x.n) (byPage x.s) a m = (p, q)) :
    Calls Try.prog 18 #[.pointer (some ⟨b, 0, none⟩), .int .i64 a, .int .i64 m] w fun e w' => e = .returned (.tuple #[.int .i64 p, .int .i64 q]) ∧ w = w' := touch_any h.u a m hr e
theorem UL.turn0 (h : UL w0 w b x) {p e : Int} {y : MS} (he : turnE x p 0 = e) (hy : turnS x p 0 = y) :
    Calls Try.prog 19 #[.pointer (some ⟨b, 0, none⟩), .int .i64 p] w fun e' w' => e' = .returned (.int .i64 e) ∧ UL w0 w' b y ∧ Ch [b] w w' := by
  refine (turn0_any h.u p).mono ?_
  rintro e' w' ⟨rfl, hu, hc⟩
  rw [he]
  rw [hy] at hu
  exact ⟨rfl, h.next hc hu, hc⟩
theorem UL.turn1 (h : UL w0 w b x) {p e : Int} {y : MS} (he : turnE x p 1 = e) (hy : turnS x p 1 = y) :
    Calls Try.prog 20 #[.pointer (some ⟨b, 0, none⟩), .int .i64 p] w fun e' w' => e' = .returned (.int .i64 e) ∧ UL w0 w' b y ∧ Ch [b] w w' := by
  refine (turn1_any h.u p).mono ?_
  rintro e' w' ⟨rfl, hu, hc⟩
  rw [he]
  rw [hy] at hu
  exact ⟨rfl, h.next hc hu, hc⟩
theorem UL.turn2 (h : UL w0 w b x) {p e : Int} {y : MS} (he : turnE x p 2 = e) (hy : turnS x p 2 = y) :
    Calls Try.prog 21 #[.pointer (some ⟨b, 0, none⟩), .int .i64 p] w fun e' w' => e' = .returned (.int .i64 e) ∧ UL w0 w' b y ∧ Ch [b] w w' := by
  refine (turn2_any h.u p).mono ?_
  rintro e' w' ⟨rfl, hu, hc⟩
  rw [he]
  rw [hy] at hu
  exact ⟨rfl, h.next hc hu, hc⟩
theorem UL.new (w0 : World) {w : World} (hc : Ch [] w0 w) {n : Nat} (h1 : 1 ≤ n) (h16 : n ≤ 16) {b : Nat} (hb : w.heap.size = b) :
    Calls Try.prog 7 #[.int .i64 (n : Int)] w fun e w' => e = .returned (.tuple #[.pointer (some ⟨b, 0, none⟩), .int .i64 0]) ∧ UL w0 w' b (MS.zero n) ∧ Ch [] w w' ∧ b < w'.heap.size := by
  refine (new_in h1 h16 w hb).mono ?_
  rintro e w' ⟨rfl, hu, hc', hs⟩
  exact ⟨rfl, ⟨hu, hc.trans hc', by rw [← hb]; exact hc.size⟩, hc', by omega⟩
theorem UL.peek (h : UL w0 w b x) {N : Nat} (hN : 16 * x.n = N) (a m : Int) (hr : a ≤ 9223372036854775807) {e : Int} (he : pieceE N a m = e) {l : List Int} (hl : l = if wIn N a m then peekL x.b a.toNat m.toNat else []) {k : Nat} (hk : l.length = k) :
    Calls Try.prog 15 #[.pointer (some ⟨b, 0, none⟩), .int .i64 a, .int .i64 m] w fun e' w' => ∃ p cp, e' = .returned (.tuple #[.slice p k cp, .int .i64 e]) ∧ BytesAt w' p l ∧ (∀ y, p = some y → w.heap.size ≤ y.block ∧ y.block < w'.heap.size) ∧ UL w0 w' b x ∧ Ch [] w w' := by
  subst hN
  refine (peek_any h.u a m hr hl).mono ?_
  rintro e' w' ⟨v, rfl, hn, hc⟩
  obtain ⟨p, cp, rfl, hb, hy⟩ := hn.form
  rw [he, hk]
  exact ⟨p, cp, rfl, hb, hy, h.quiet hc, hc⟩
theorem UL.poke (h : UL w0 w b x) {N : Nat} (hN : 16 * x.n = N) (a : Int) (hr : a ≤ 9223372036854775807) {v : Option Addr} {cap n : Nat} {l : List Int} (hn : l.length = n) (hn2 : n ≤ 1000) (hl : BytesAt w v l) {e : Int} (he : pieceE N a n = e) {y : MS} (hy : pokeS x a l = y) :
    Calls Try.prog 17 #[.pointer (some ⟨b, 0, none⟩), .int .i64 a, .slice v n cap] w fun e' w' => e' = .returned (.int .i64 e) ∧ UL w0 w' b y ∧ Ch [b] w w' := by
  subst hN
  refine (poke_any h.u a hr v cap l hn hn2 hl).mono ?_
  rintro e' w' ⟨rfl, hu, hc⟩
  rw [he]
  rw [hy] at hu
  exact ⟨rfl, h.next hc hu, hc⟩
theorem UL.state (h : UL w0 w b x) (p : Int) {v : Int} (hv : stateV x p = v) :
    Calls Try.prog 12 #[.pointer (some ⟨b, 0, none⟩), .int .i64 p] w fun e w' => e = .returned (.int .i64 v) ∧ w = w' := by
  rw [← hv]
  exact state_any h.u p
theorem UL.size (h : UL w0 w b x) {N : Int} (hN : 16 * (x.n : Int) = N) :
    Calls Try.prog 9 #[.pointer (some ⟨b, 0, none⟩)] w fun e w' => e = .returned (.int .i64 N) ∧ w = w' := by
  rw [← hN]
  exact size_any h.u
end
def kx1 : MS := turnS (MS.zero 2) 0 0
def kx2 : MS := turnS kx1 1 2
theorem known_any (w : World) :
    Calls Try.prog 8 #[] w fun e w' => e = .returned (.bool true) ∧ Ch [] w w' := by
  obtain ⟨b, hb⟩ : ∃ b, w.heap.size = b := ⟨_, rfl⟩
  have H0 := Lib.hid (UL.new w (Ch.refl [] w) (n := 2) (by decide) (by decide) hb)
  clear hb
  go_enter Try.func8, Try.ntmps8
  go_wp2_with fail
  refine H0.out.mono ?_
  rintro e w1 ⟨rfl, h1, -, -⟩
  have C1 := Lib.hid (h1.turn0 (p := 0) (e := 0) (y := kx1) (by decide +kernel) rfl)
  clear h1 H0
  go_wp2_with fail
  with_reducible refine C1.out.mono ?_
  rintro e w2 ⟨rfl, h2, -⟩
  have C2 := Lib.hid (h2.touch (a := 10) (m := 6) (p := 0) (q := 0) (by decide) (by decide +kernel))
  have C3 := Lib.hid (h2.touch (a := 10) (m := 7) (p := 1) (q := 15) (by decide) (by decide +kernel))
  have C4 := Lib.hid (h2.turn2 (p := 1) (e := 0) (y := kx2) (by decide +kernel) rfl)
  clear h2 C1
  go_wp2_with fail
  with_reducible refine C2.out.mono ?_
  rintro e w' ⟨rfl, rfl⟩
  go_wp2_with fail
  with_reducible refine C3.out.mono ?_
  rintro e w' ⟨rfl, rfl⟩
  go_wp2_with fail
  with_reducible refine C4.out.mono ?_
  rintro e w3 ⟨rfl, h3, -⟩
  have C5 := Lib.hid (h3.touch (a := 10) (m := 7) (p := 1) (q := 14) (by decide) (by decide +kernel))
  have C6 := Lib.hid (h3.touch (a := 30) (m := 3) (p := 0) (q := 2) (by decide) (by decide +kernel))
  have HC := Lib.hid h3.ch
  clear C2 C3 C4 h3
  go_wp2_with fail
  with_reducible refine C5.out.mono ?_
  rintro e w' ⟨rfl, rfl⟩
  go_wp2_with fail
  with_reducible refine C6.out.mono ?_
  rintro e w' ⟨rfl, rfl⟩
  go_wp2_with fail
  go_ret
  exact ⟨rfl, HC.out⟩

theorem tch_code (h : Nat → Int) (m : Nat) : ∀ a, (tch h a m).2 = 0 ∨ (tch h a m).2 = 15 ∨ (tch h a m).2 = 14 := by
  induction m with
  | zero => intro a; rw [tch_zero]; exact .inl rfl
  | succ m ih =>
    intro a
    rw [tch]
    split
    · exact .inr (.inl rfl)
    · split
      · exact .inr (.inr rfl)
      · exact ih _
theorem piece_if {N : Nat} {a m : Int} (e : wIn N a m) : pieceE N a m = 0 := if_pos e
theorem piece_no {N : Nat} {a m : Int} (e : ¬ wIn N a m) : pieceE N a m = 2 := if_neg e


set_option maxRecDepth 20000 in
set_option maxHeartbeats 4000000 in
theorem limits_law {a0 a1 a2 : Int} (_ : (Lit.int .i64 a0).wf = true) (wf1 : (Lit.int .i64 a1).wf = true) (_ : (Lit.int .i64 a2).wf = true) (v : Option Addr) (len cap : Nat) (hlc : len ≤ cap) (w : World) :
    Calls Try.prog 6 #[.int .i64 a0, .int .i64 a1, .int .i64 a2, .slice v len cap] w fun e w' => e = .returned (.bool true) ∧ Below w.heap.size w w' := by
  have hr1 := (i64_of wf1).2
  have u0 : 0 ≤ IntKind.u64.wrap a0 ∧ IntKind.u64.wrap a0 < 18446744073709551616 := by rw [IntKind.wrap_u64]; omega
  generalize hg0 : IntKind.u64.wrap a0 = U0 at u0
  obtain ⟨u00, u01⟩ := u0
  obtain ⟨n, hn0, hn1, hn2⟩ : ∃ n : Nat, 1 + U0 % 16 = (n : Int) ∧ 1 ≤ n ∧ n ≤ 16 := ⟨(1 + U0 % 16).toNat, by omega⟩
  obtain ⟨m, hm⟩ : ∃ m, m = min len 300 := ⟨_, rfl⟩
  have hmin : (if (300 : Int) < (len : Int) then (300 : Int) else (len : Int)) = (m : Int) := by split <;> omega
  have hmc : (m : Int) ≤ (cap : Int) := by omega
  obtain ⟨b, hb⟩ : ∃ b, w.heap.size = b := ⟨_, rfl⟩
  have HNew := Lib.hid (UL.new w (Ch.refl [] w) hn1 hn2 hb)
  obtain ⟨N, hN⟩ : ∃ N, 16 * n = N := ⟨_, rfl⟩
  have hw16 : IntKind.i64.wrap (16 * (n : Int)) = (N : Int) := by rw [IntWalk.i64_in _ (by omega)]; omega
  obtain ⟨E, hE⟩ : ∃ E, pieceE N a1 a2 = E := ⟨_, rfl⟩
  obtain ⟨⟨p, q⟩, hpq⟩ : ∃ r : Int × Int, touchR N (byPage (MS.zero n).s) a1 a2 = r := ⟨_, rfl⟩
  have HN := Lib.hid hN
  have HE := Lib.hid hE
  have HQ := Lib.hid hpq
  have hN256 : N ≤ 256 := by omega
  clear hm hlc hb hN hE hpq
  go_enter Try.func6, Try.ntmps6
  go_wp2_with fail
  clear hmin hmc hn0 hg0 u00 u01
  with_reducible refine HNew.out.mono ?_
  rintro e w1 ⟨rfl, h1, -, -⟩
  obtain ⟨L, hL⟩ : ∃ L, L = if wIn N a1 a2 then peekL (MS.zero n).b a1.toNat a2.toNat else [] := ⟨_, rfl⟩
  obtain ⟨k, hk⟩ : ∃ k, L.length = k := ⟨_, rfl⟩
  have C1 := Lib.hid (h1.peek HN.out a1 a2 hr1 HE.out hL hk)
  clear h1 HNew hk hL
  go_wp2_with fail
  with_reducible refine C1.out.mono ?_
  rintro e w2 ⟨pp, cp, rfl, -, -, h2, -⟩
  have C2 := Lib.hid (h2.touch (p := p) (q := q) hr1 (by rw [show 16 * (MS.zero n).n = N from HN.out]; exact HQ.out))
  have H2 := Lib.hid h2.ch
  clear h2 C1
  go_wp2_with fail
  with_reducible refine C2.out.mono ?_
  rintro e w' ⟨rfl, rfl⟩
  clear C2
  have hcase : (E = 0 ∧ (q == 2) = false ∧ ¬ a1 < 0 ∧ ¬ a2 < 0 ∧ ¬ (N : Int) < a1 ∧ ¬ (N : Int) - a1 < a2) ∨ ((E = 2 ∧ q = 2) ∧ (a1 < 0 ∨ (¬ a1 < 0 ∧ (a2 < 0 ∨ (¬ a2 < 0 ∧ ((N : Int) < a1 ∨ (¬ (N : Int) < a1 ∧ (N : Int) - a1 < a2))))))) := by
    by_cases hin : wIn N a1 a2
    · left
      have h3 := HQ.out
      unfold touchR at h3
      rw [if_pos hin] at h3
      have h4 := tch_code (byPage (MS.zero n).s) a2.toNat a1.toNat
      rw [h3] at h4
      refine ⟨by rw [← HE.out, piece_if hin], ?_, by omega, by omega, by omega, by omega⟩
      simp only at h4
      rw [beq_eq_false_iff_ne]
      omega
    · right
      have h3 := HQ.out
      unfold touchR at h3
      rw [if_neg hin] at h3
      obtain ⟨rfl, rfl⟩ : 0 = p ∧ 2 = q := by simpa using h3
      exact ⟨⟨by rw [← HE.out, piece_no hin], rfl⟩, by omega⟩
  have hws : ¬ a1 < 0 → ¬ (N : Int) < a1 → IntKind.i64.wrap ((N : Int) - a1) = (N : Int) - a1 := fun _ _ => IntWalk.i64_in _ (by omega)
  clear HQ HE hN256
  rcases hcase with ⟨rfl, hq2, h0, h1, h3, h4⟩ | ⟨⟨rfl, rfl⟩, h0 | ⟨h0, h1 | ⟨h1, h3 | ⟨h3, h4⟩⟩⟩⟩
  · have hws := hws h0 h3
    go_wp2_with fail
    with_reducible refine (nil_peek _ _ _).mono ?_
    rintro e w' ⟨rfl, rfl⟩
    go_wp2_with fail
    with_reducible refine (nil_touch _ _ _).mono ?_
    rintro e w' ⟨rfl, rfl⟩
    go_wp2_with fail
    with_reducible refine (known_any _).mono ?_
    rintro e w3 ⟨rfl, h5⟩
    have H3 := Lib.hid (H2.out.trans h5)
    clear h5 H2
    go_wp2_with fail
    with_reducible refine (nil_poke _ _ _ _ _).mono ?_
    rintro e w' ⟨rfl, rfl⟩
    go_wp2_with fail
    with_reducible refine (nil_bring _ _).mono ?_
    rintro e w' ⟨rfl, rfl⟩
    go_wp2_with fail
    with_reducible refine (nil_evict _ _).mono ?_
    rintro e w' ⟨rfl, rfl⟩
    go_wp2_with fail
    with_reducible refine (nil_break _ _).mono ?_
    rintro e w' ⟨rfl, rfl⟩
    go_wp2_with fail
    with_reducible refine (nil_state _ _).mono ?_
    rintro e w' ⟨rfl, rfl⟩
    go_wp2_with fail
    with_reducible refine (nil_size _).mono ?_
    rintro e w' ⟨rfl, rfl⟩
    go_wp2_with fail
    go_ret
    exact ⟨rfl, H3.out.below _ (by simp) (Nat.le_refl _)⟩
  · go_wp2_with fail
    with_reducible refine (nil_peek _ _ _).mono ?_
    rintro e w' ⟨rfl, rfl⟩
    go_wp2_with fail
    with_reducible refine (nil_touch _ _ _).mono ?_
    rintro e w' ⟨rfl, rfl⟩
    go_wp2_with fail
    with_reducible refine (known_any _).mono ?_
    rintro e w3 ⟨rfl, h5⟩
    have H3 := Lib.hid (H2.out.trans h5)
    clear h5 H2
    go_wp2_with fail
    with_reducible refine (nil_poke _ _ _ _ _).mono ?_
    rintro e w' ⟨rfl, rfl⟩
    go_wp2_with fail
    with_reducible refine (nil_bring _ _).mono ?_
    rintro e w' ⟨rfl, rfl⟩
    go_wp2_with fail
    with_reducible refine (nil_evict _ _).mono ?_
    rintro e w' ⟨rfl, rfl⟩
    go_wp2_with fail
    with_reducible refine (nil_break _ _).mono ?_
    rintro e w' ⟨rfl, rfl⟩
    go_wp2_with fail
    with_reducible refine (nil_state _ _).mono ?_
    rintro e w' ⟨rfl, rfl⟩
    go_wp2_with fail
    with_reducible refine (nil_size _).mono ?_
    rintro e w' ⟨rfl, rfl⟩
    go_wp2_with fail
    go_ret
    exact ⟨rfl, H3.out.below _ (by simp) (Nat.le_refl _)⟩
  · go_wp2_with fail
    with_reducible refine (nil_peek _ _ _).mono ?_
    rintro e w' ⟨rfl, rfl⟩
    go_wp2_with fail
    with_reducible refine (nil_touch _ _ _).mono ?_
    rintro e w' ⟨rfl, rfl⟩
    go_wp2_with fail
    with_reducible refine (known_any _).mono ?_
    rintro e w3 ⟨rfl, h5⟩
    have H3 := Lib.hid (H2.out.trans h5)
    clear h5 H2
    go_wp2_with fail
    with_reducible refine (nil_poke _ _ _ _ _).mono ?_
    rintro e w' ⟨rfl, rfl⟩
    go_wp2_with fail
    with_reducible refine (nil_bring _ _).mono ?_
    rintro e w' ⟨rfl, rfl⟩
    go_wp2_with fail
    with_reducible refine (nil_evict _ _).mono ?_
    rintro e w' ⟨rfl, rfl⟩
    go_wp2_with fail
    with_reducible refine (nil_break _ _).mono ?_
    rintro e w' ⟨rfl, rfl⟩
    go_wp2_with fail
    with_reducible refine (nil_state _ _).mono ?_
    rintro e w' ⟨rfl, rfl⟩
    go_wp2_with fail
    with_reducible refine (nil_size _).mono ?_
    rintro e w' ⟨rfl, rfl⟩
    go_wp2_with fail
    go_ret
    exact ⟨rfl, H3.out.below _ (by simp) (Nat.le_refl _)⟩
  · go_wp2_with fail
    with_reducible refine (nil_peek _ _ _).mono ?_
    rintro e w' ⟨rfl, rfl⟩
    go_wp2_with fail
    with_reducible refine (nil_touch _ _ _).mono ?_
    rintro e w' ⟨rfl, rfl⟩
    go_wp2_with fail
    with_reducible refine (known_any _).mono ?_
    rintro e w3 ⟨rfl, h5⟩
    have H3 := Lib.hid (H2.out.trans h5)
    clear h5 H2
    go_wp2_with fail
    with_reducible refine (nil_poke _ _ _ _ _).mono ?_
    rintro e w' ⟨rfl, rfl⟩
    go_wp2_with fail
    with_reducible refine (nil_bring _ _).mono ?_
    rintro e w' ⟨rfl, rfl⟩
    go_wp2_with fail
    with_reducible refine (nil_evict _ _).mono ?_
    rintro e w' ⟨rfl, rfl⟩
    go_wp2_with fail
    with_reducible refine (nil_break _ _).mono ?_
    rintro e w' ⟨rfl, rfl⟩
    go_wp2_with fail
    with_reducible refine (nil_state _ _).mono ?_
    rintro e w' ⟨rfl, rfl⟩
    go_wp2_with fail
    with_reducible refine (nil_size _).mono ?_
    rintro e w' ⟨rfl, rfl⟩
    go_wp2_with fail
    go_ret
    exact ⟨rfl, H3.out.below _ (by simp) (Nat.le_refl _)⟩
  · have hws := hws h0 h3
    go_wp2_with fail
    with_reducible refine (nil_peek _ _ _).mono ?_
    rintro e w' ⟨rfl, rfl⟩
    go_wp2_with fail
    with_reducible refine (nil_touch _ _ _).mono ?_
    rintro e w' ⟨rfl, rfl⟩
    go_wp2_with fail
    with_reducible refine (known_any _).mono ?_
    rintro e w3 ⟨rfl, h5⟩
    have H3 := Lib.hid (H2.out.trans h5)
    clear h5 H2
    go_wp2_with fail
    with_reducible refine (nil_poke _ _ _ _ _).mono ?_
    rintro e w' ⟨rfl, rfl⟩
    go_wp2_with fail
    with_reducible refine (nil_bring _ _).mono ?_
    rintro e w' ⟨rfl, rfl⟩
    go_wp2_with fail
    with_reducible refine (nil_evict _ _).mono ?_
    rintro e w' ⟨rfl, rfl⟩
    go_wp2_with fail
    with_reducible refine (nil_break _ _).mono ?_
    rintro e w' ⟨rfl, rfl⟩
    go_wp2_with fail
    with_reducible refine (nil_state _ _).mono ?_
    rintro e w' ⟨rfl, rfl⟩
    go_wp2_with fail
    with_reducible refine (nil_size _).mono ?_
    rintro e w' ⟨rfl, rfl⟩
    go_wp2_with fail
    go_ret
    exact ⟨rfl, H3.out.below _ (by simp) (Nat.le_refl _)⟩
end Go.Proofs.Ytgiacoclddoboaa

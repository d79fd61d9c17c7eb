/-
  A copy beside a memory of a law's own; nil copies; the chapter's example holds.
-/
import Derived.Test.YtcdolkbljheniaaCpF
namespace Go.Proofs.Ytcdolkbljheniaa
open Go.RowKit

/-- A memory and a copy, both of a law's own. -/
structure UC (w0 w : World) (b : Nat) (x : MS) (L D c : Nat) (z : CZ) : Prop where
  u : UL w0 w b x
  c : CC w L D c z
  bL : b < L
section
variable {w0 w w' : World} {b L D c : Nat} {x : MS} {z : CZ}
theorem UC.quiet (h : UC w0 w b x L D c z) (hc : Ch [] w w') : UC w0 w' b x L D c z := ⟨h.u.quiet hc, h.c.quiet hc, h.bL⟩
theorem UL.inn (h : UL w0 w b x) {a : Int} (ha : a ≤ 9223372036854775807) {n : Nat} (hn : n ≤ 64) {m : Int} (hm : (n : Int) = m) :
    Calls Try.prog 11 #[.int .i64 a, .int .i64 m] w fun e w' => ∃ c, e = .returned (.tuple #[.pointer (some ⟨c, 0, none⟩), .int .i64 0]) ∧ UC w0 w' b x w.heap.size c c (CZ.inn a n) ∧ Ch [] w w' := by
  subst hm
  refine (in_ok ha hn w).mono ?_
  rintro e w' ⟨c, rfl, h1, h2⟩
  exact ⟨c, rfl, ⟨h.quiet h2, h1, h.u.lt⟩, h2⟩
theorem UL.outn (h : UL w0 w b x) {a : Int} (ha : a ≤ 9223372036854775807) {n : Nat} (hn : n ≤ 64) {v : Option Addr} {cap : Nat} {l : List Int} (hl : l.length = n) (hb : BytesAt w v l) (hnn : v = none → cap = 0) :
    Calls Try.prog 12 #[.int .i64 a, .slice v n cap] w fun e w' => ∃ c, e = .returned (.tuple #[.pointer (some ⟨c, 0, none⟩), .int .i64 0]) ∧ UC w0 w' b x w.heap.size c c (CZ.outn a l) ∧ Ch [] w w' := by
  refine (out_ok ha hn hl hb hnn).mono ?_
  rintro e w' ⟨c, rfl, h1, h2⟩
  exact ⟨c, rfl, ⟨h.quiet h2, h1, h.u.lt⟩, h2⟩
theorem tryR_n (z : CZ) (x : MS) (wait : Bool) : (tryR z x wait).2.2.n = x.n := by
  unfold tryR
  split
  · rfl
  · split
    · dsimp only; unfold CZ.mem; split
      · exact pokeS_n _ _ _
      · rfl
    · rfl
theorem UC.try (h : UC w0 w b x L D c z) (ho : z.over = false) (ht : z.t < 1000000) (wait : Bool) {E : Int} {z' : CZ} {x' : MS} (hE : (tryR z x wait).1 = E) (hz : (tryR z x wait).2.1 = z') (hx : (tryR z x wait).2.2 = x') :
    Calls Try.prog 15 #[.pointer (some ⟨c, 0, none⟩), .pointer (some ⟨b, 0, none⟩), .bool wait] w fun e w' => e = .returned (.int .i64 E) ∧ UC w0 w' b x' L D c z' ∧ Ch [c, b] w w' := by
  have hR : tryR z x wait = (E, z', x') := by rw [← hE, ← hz, ← hx]
  refine (try_any h.u.u h.c h.bL ho ht wait hR).mono ?_
  rintro e w' ⟨rfl, h1, h2, h3⟩
  exact ⟨rfl, ⟨⟨h2, h.u.ch.fresh h3 (by have := h.u.lo; have := h.bL; have := h.c.lo; simp; omega), h.u.lo⟩, h1, h.bL⟩, h3⟩
theorem UC.turn0 (h : UC w0 w b x L D c z) {p e : Int} {y : MS} (he : turnE x p 0 = e) (hy : turnS x p 0 = y) :
    Calls Try.prog 26 #[.pointer (some ⟨b, 0, none⟩), .int .i64 p] w fun e' w' => e' = .returned (.int .i64 e) ∧ UC w0 w' b y L D c z ∧ Ch [b] w w' := by
  refine (h.u.turn0 he hy).mono ?_
  rintro e' w' ⟨rfl, h1, h2⟩
  exact ⟨rfl, ⟨h1, h.c.ch h2 (by simpa using h.bL), h.bL⟩, h2⟩
theorem UC.page (h : UC w0 w b x L D c z) {p : Int} {q : Bool} (hp : z.pageOf = p) (hq : z.waits = q) :
    Calls Try.prog 16 #[.pointer (some ⟨c, 0, none⟩)] w fun e w' => e = .returned (.tuple #[.int .i64 p, .bool q]) ∧ w = w' := by
  rw [← hp, ← hq]
  exact page_any h.c
theorem UC.bytes (h : UC w0 w b x L D c z) {l : List Int} (hl : z.bs = l) {k : Nat} (hk : l.length = k) :
    Calls Try.prog 20 #[.pointer (some ⟨c, 0, none⟩)] w fun e w' => ∃ v cap, e = .returned (.slice v k cap) ∧ BytesAt w' v l ∧ UC w0 w' b x L D c z ∧ Ch [] w w' := by
  subst hl
  refine (bytes_any h.c hk).mono ?_
  rintro e w' ⟨v, cap, rfl, h1, h2⟩
  exact ⟨v, cap, rfl, h1, h.quiet h2, h2⟩
theorem UC.over (h : UC w0 w b x L D c z) {q : Bool} (hq : z.over = q) :
    Calls Try.prog 17 #[.pointer (some ⟨c, 0, none⟩)] w fun e w' => e = .returned (.bool q) ∧ w = w' := by
  rw [← hq]
  exact over_any h.c
theorem UC.tries (h : UC w0 w b x L D c z) {v : Int} (hv : (z.t : Int) = v) :
    Calls Try.prog 18 #[.pointer (some ⟨c, 0, none⟩)] w fun e w' => e = .returned (.int .i64 v) ∧ w = w' := by
  rw [← hv]
  exact tries_any h.c
theorem UC.peek (h : UC w0 w b x L D c z) {N : Nat} (hN : 16 * x.n = N) (a m : Int) (hr : a ≤ 9223372036854775807) {e : Int} (he : pieceE N a m = e) {l : List Int} (hl : l = if wIn N a m then peekL x.b a.toNat m.toNat else []) {k : Nat} (hk : l.length = k) :
    Calls Try.prog 22 #[.pointer (some ⟨b, 0, none⟩), .int .i64 a, .int .i64 m] w fun e' w' => ∃ p cp, e' = .returned (.tuple #[.slice p k cp, .int .i64 e]) ∧ BytesAt w' p l ∧ (∀ y, p = some y → y.block ∉ [c, b]) ∧ UC w0 w' b x L D c z ∧ Ch [] w w' := by
  refine (h.u.peek hN a m hr he hl hk).mono ?_
  rintro e' w' ⟨p, cp, rfl, hb, hy, -, hc⟩
  have h1 := h.c.lt
  have h2 := h.u.u.lt
  exact ⟨p, cp, rfl, hb, fun y e => by have := hy y e; simp; omega, h.quiet hc, hc⟩
theorem tryR_met (z : CZ) (x : MS) (wait : Bool) {p q : Int} (e : z.met x = (p, q)) : tryR z x wait = if q = 15 ∧ wait = true then (15, z.wait p, x) else if q = 0 then (0, z.done x, z.mem x) else (14, z.fail, x) := by
  unfold tryR
  rw [e]
end
/-- A literal of four bytes. -/
theorem lit4 (w : World) (a b c d : Int) (t : TypeId) : BytesAt (w.alloc (.cells #[.int .u8 a, .int .u8 b, .int .u8 c, .int .u8 d] t)) (some ⟨w.heap.size, 0, none⟩) [a, b, c, d] := by
  refine .inr ⟨_, _, rfl, fun i hi => ?_⟩
  rw [at_new, Nat.zero_add]
  simp only [List.length_cons, List.length_nil] at hi
  match i, hi with
  | 0, _ => rfl
  | 1, _ => rfl
  | 2, _ => rfl
  | 3, _ => rfl
theorem nil_over (w : World) : Calls Try.prog 17 #[.pointer none] w fun e w' => e = .returned (.bool false) ∧ w = w' := by
  go_enter Try.func17, Try.ntmps17
  go_wp2
  go_ret
  exact ⟨rfl, rfl⟩
theorem nil_tries (w : World) : Calls Try.prog 18 #[.pointer none] w fun e w' => e = .returned (.int .i64 0) ∧ w = w' := by
  go_enter Try.func18, Try.ntmps18
  go_wp2
  go_ret
  exact ⟨rfl, rfl⟩
theorem nil_page (w : World) : Calls Try.prog 16 #[.pointer none] w fun e w' => e = .returned (.tuple #[.int .i64 0, .bool false]) ∧ w = w' := by
  go_enter Try.func16, Try.ntmps16
  go_wp2
  go_ret2
  exact ⟨rfl, rfl⟩
theorem nil_bytes (w : World) : Calls Try.prog 20 #[.pointer none] w fun e w' => e = .returned (.slice none 0 0) ∧ w = w' := by
  go_enter Try.func20, Try.ntmps20
  go_wp2
  go_ret
  exact ⟨rfl, rfl⟩
theorem nil_try (M : Option Addr) (wait : Bool) (w : World) : Calls Try.prog 15 #[.pointer none, .pointer M, .bool wait] w fun e w' => e = .returned (.int .i64 6) ∧ w = w' := by
  go_enter Try.func15, Try.ntmps15
  go_wp2
  go_ret
  exact ⟨rfl, rfl⟩
def ky1 : MS := turnS (MS.zero 2) 0 0
def ky2 : MS := pokeS ky1 14 [1, 2, 3, 4]
def kz0 : CZ := CZ.inn 14 4
def kz1 : CZ := kz0.wait 1
def kz2 : CZ := kz0.fail
def ky3 : MS := turnS ky2 1 0
def kz3 : CZ := kz1.done ky3
set_option maxRecDepth 20000 in
set_option maxHeartbeats 2000000 in
theorem known14 (w : World) :
    Calls Try.prog 13 #[] w fun e w' => e = .returned (.bool true) ∧ Ch [] w w' := by
  obtain ⟨b, hb⟩ : ∃ b, w.heap.size = b := ⟨_, rfl⟩
  have H0 := Lib.hid (UL.new w (Ch.refl [] w) (n := 2) (by decide) (by decide) hb)
  clear hb
  go_enter Try.func13, Try.ntmps13
  go_wp2_with fail
  refine H0.out.mono ?_
  rintro e w1 ⟨rfl, h1, -, -⟩
  have C := Lib.hid (h1.turn0 (p := 0) (e := 0) (y := ky1) (by decide +kernel) rfl)
  clear h1 H0
  go_wp2_with fail
  with_reducible refine C.out.mono ?_
  rintro e w2 ⟨rfl, h2, -⟩
  clear C
  have C := Lib.hid ((h2.quiet ((Ch.refl [] w2).alloc (.cells #[.int .u8 1, .int .u8 2, .int .u8 3, .int .u8 4] 5))).poke (N := 32) rfl 14 (by decide) (n := 4) (cap := 4) rfl (by decide) (lit4 w2 1 2 3 4 5) (e := 0) (by decide +kernel) (y := ky2) rfl)
  clear h2
  go_wp2_with fail
  with_reducible refine C.out.mono ?_
  rintro e w3 ⟨rfl, h3, -⟩
  clear C
  have C := Lib.hid (h3.inn (a := 14) (by decide) (n := 4) (by decide) (m := 4) rfl)
  clear h3
  go_wp2_with fail
  with_reducible refine C.out.mono ?_
  rintro e w4 ⟨c, rfl, h4, -⟩
  clear C
  have C := Lib.hid (h4.u.inn (a := 14) (by decide) (n := 4) (by decide) (m := 4) rfl)
  have H4 := Lib.hid h4
  clear h4
  go_wp2_with fail
  with_reducible refine C.out.mono ?_
  rintro e w5 ⟨d, rfl, h5, hc5⟩
  clear C
  have h5c : UC w w5 b ky2 w3.heap.size d c kz0 := ⟨h5.u, H4.out.c.foreign hc5 h5.c.lo h5.c.lt, H4.out.bL⟩
  have HD5 := Lib.hid h5
  have hcd : c < w4.heap.size := H4.out.c.lt
  have C := Lib.hid (h5c.try (E := 15) (z' := kz1) (x' := ky2) rfl (by decide) true (by decide +kernel) rfl rfl)
  clear h5 h5c hc5
  go_wp2_with fail
  with_reducible refine C.out.mono ?_
  rintro e w6 ⟨rfl, h6, hc6⟩
  clear C
  have hbb := H4.out.bL
  have h6d : UC w w6 b ky2 w4.heap.size d d kz0 := ⟨h6.u, HD5.out.c.ch hc6 (by have := HD5.out.bL; simp; omega), HD5.out.bL⟩
  have hdl := HD5.out.c.lo
  have C := Lib.hid (h6d.try (E := 14) (z' := kz2) (x' := ky2) rfl (by decide) false (by decide +kernel) rfl rfl)
  have H6 := Lib.hid h6
  clear h6 h6d hc6
  go_wp2_with fail
  with_reducible refine C.out.mono ?_
  rintro e w7 ⟨rfl, h7, hc7⟩
  clear C
  have h7c : UC w w7 b ky2 w3.heap.size d c kz1 := ⟨h7.u, H6.out.c.ch2 hc7 (by have := H4.out.c.lo; simp; omega) (by simp; omega), H4.out.bL⟩
  have C := Lib.hid (h7.bytes (l := [0, 0, 0, 0]) (by decide +kernel) (k := 4) rfl)
  clear h7 hc7 hcd hdl hbb
  go_wp2_with fail
  with_reducible refine C.out.mono ?_
  rintro e w8 ⟨v8, cap8, rfl, hb8, -, hc8⟩
  clear C
  have hc8a := hc8.alloc (.cells #[.int .u8 0, .int .u8 0, .int .u8 0, .int .u8 0] 5)
  have h8c := h7c.quiet hc8a
  have C := Lib.hid (same_any cap8 4 (n := 4) rfl (by decide) (hb8.ch ((Ch.refl [] w8).alloc (.cells #[.int .u8 0, .int .u8 0, .int .u8 0, .int .u8 0] 5)) (by simp)) (lit4 w8 0 0 0 0 5))
  clear hb8 h7c hc8 hc8a
  go_wp2_with fail
  with_reducible refine C.out.mono ?_
  rintro e w9 ⟨rfl, hc9⟩
  clear C
  have h9 := h8c.quiet hc9
  have C := Lib.hid (h9.page (p := 1) (q := true) (by decide +kernel) (by decide +kernel))
  have C2 := Lib.hid (h9.turn0 (p := 1) (e := 0) (y := ky3) (by decide +kernel) rfl)
  clear h8c hc9 h9
  go_wp2_with fail
  with_reducible refine C.out.mono ?_
  rintro e w' ⟨rfl, rfl⟩
  clear C
  go_wp2_with fail
  with_reducible refine C2.out.mono ?_
  rintro e w10 ⟨rfl, h10, -⟩
  clear C2
  have C := Lib.hid (h10.try (E := 0) (z' := kz3) (x' := ky3) rfl (by decide) true (by decide +kernel) rfl rfl)
  clear h10
  go_wp2_with fail
  with_reducible refine C.out.mono ?_
  rintro e w11 ⟨rfl, h11, -⟩
  clear C
  have C := Lib.hid (h11.bytes (l := [1, 2, 3, 4]) (by decide +kernel) (k := 4) rfl)
  have HC := Lib.hid h11.u.ch
  clear h11
  go_wp2_with fail
  with_reducible refine C.out.mono ?_
  rintro e w12 ⟨v12, cap12, rfl, hb12, -, hc12⟩
  clear C
  have HC2 := Lib.hid ((HC.out.trans hc12).alloc (.cells #[.int .u8 1, .int .u8 2, .int .u8 3, .int .u8 4] 5))
  have C := Lib.hid (same_any cap12 4 (n := 4) rfl (by decide) (hb12.ch ((Ch.refl [] w12).alloc (.cells #[.int .u8 1, .int .u8 2, .int .u8 3, .int .u8 4] 5)) (by simp)) (lit4 w12 1 2 3 4 5))
  clear hb12 hc12 HC
  go_wp2_with fail
  with_reducible refine C.out.mono ?_
  rintro e w13 ⟨rfl, hc13⟩
  have HZ := Lib.hid (HC2.out.trans hc13)
  clear hc13 C
  go_wp2_with fail
  go_ret
  exact ⟨rfl, HZ.out⟩
end Go.Proofs.Ytcdolkbljheniaa

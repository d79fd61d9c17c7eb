/-
  Scans: nil ones; a scan of a law's own; a reader's deed (Do); the chapter's example holds.
-/
import Derived.Test.YtlmepjpkaionbaaDoorSnD
import Derived.Test.YtlmepjpkaionbaaDoorSeV
namespace Go.Proofs.YtlmepjpkaionbaaDoor
open Go.RowKit

theorem nil_poll (w : World) (n : Int) : Calls Tryd.prog 14 #[.pointer none, .int .i64 n] w fun e w' => e = .returned (.int .i64 0) ∧ w = w' := by
  go_enter Tryd.func14, Tryd.ntmps14
  go_wp2_with fail
  try go_step3
  go_wp2_with fail
  try rw [Exit.noGoto_ret]
  go_ret
  exact ⟨rfl, rfl⟩
theorem nil_quiet (w : World) (a : Option Addr) (l c : Nat) : Calls Tryd.prog 17 #[.pointer none, .slice a l c] w fun e w' => e = .returned (.int .i64 0) ∧ w = w' := by
  go_enter Tryd.func17, Tryd.ntmps17
  go_wp2
  go_ret
  exact ⟨rfl, rfl⟩
theorem nil_left (w : World) : Calls Tryd.prog 11 #[.pointer none] w fun e w' => e = .returned (.int .u64 0) ∧ w = w' := by
  go_enter Tryd.func11, Tryd.ntmps11
  go_wp2
  go_ret
  exact ⟨rfl, rfl⟩
theorem nil_began (w : World) : Calls Tryd.prog 10 #[.pointer none] w fun e w' => e = .returned (.int .i64 0) ∧ w = w' := by
  go_enter Tryd.func10, Tryd.ntmps10
  go_wp2
  go_ret
  exact ⟨rfl, rfl⟩
theorem nil_place (w : World) : Calls Tryd.prog 18 #[.pointer none] w fun e w' => e = .returned (.int .i64 0) ∧ w = w' := by
  go_enter Tryd.func18, Tryd.ntmps18
  go_wp2
  go_ret
  exact ⟨rfl, rfl⟩
theorem nil_done (w : World) : Calls Tryd.prog 19 #[.pointer none] w fun e w' => e = .returned (.bool true) ∧ w = w' := by
  have H := Lib.hid (nil_left w)
  go_enter Tryd.func19, Tryd.ntmps19
  go_wp2_with fail
  with_reducible refine H.out.mono ?_
  rintro e w' ⟨rfl, rfl⟩
  go_wp2_with fail
  go_ret
  exact ⟨rfl, rfl⟩

/-- Who has ended, as sections tell it now. -/
def endF (t : Int) (x : SS) (r : Int) : Bool := endB t (sOf x r)
/-- A scan of a law's own, of sections of its own. -/
structure XL (w0 w : World) (b c : Nat) (x : SS) (t : Int) (p : Nat → Bool) (P : Nat) : Prop where
  l : SL w0 w b x
  n : Sn w c (.pointer (some ⟨b, 0, none⟩)) t p P
  bc : b ≠ c
  lo : w0.heap.size ≤ c
  tab : Mk.Tab w0
  lt : P < 64
section
variable {w0 w w' : World} {b c : Nat} {x : SS} {t : Int} {p : Nat → Bool} {P : Nat}
theorem tab_lt (h : Mk.Tab w) : 0 < w.heap.size := cell_lt (h 0 (by decide))
theorem XL.sns (h : XL w0 w b c x t p P) : Sns w c (.pointer (some ⟨b, 0, none⟩)) (sOf x) := .of h.l.s h.bc
theorem XL.quiet (h : XL w0 w b c x t p P) (hc : Ch [] w w') : XL w0 w' b c x t p P := ⟨h.l.quiet hc, h.n.ch hc (by simp), h.bc, h.lo, h.tab, h.lt⟩
theorem XL.sect {y : SS} (h : XL w0 w b c x t p P) (hl : SL w0 w' b y) (hc : Ch [b] w w') : XL w0 w' b c y t p P := ⟨hl, h.n.ch hc (by simpa using h.bc.symm), h.bc, h.lo, h.tab, h.lt⟩
theorem SL.turn {S : List Nat} (h : SL w0 w b x) (hc : Ch S w w') (hb : b ∉ S) (hS : ∀ k ∈ S, w0.heap.size ≤ k) : SL w0 w' b x := ⟨h.s.ch hc hb, h.g, h.ch.fresh hc hS, h.lo⟩
theorem XL.poll (h : XL w0 w b c x t p P) (n : Int) {p' : Nat → Bool} {P' v : Nat} (hp : pollL (endF t x) P p n = p') (hP : pollP P p n = P') (hv : cntN p' 64 = v) :
    Calls Tryd.prog 14 #[.pointer (some ⟨c, 0, none⟩), .int .i64 n] w fun e w' => e = .returned (.int .i64 (v : Int)) ∧ XL w0 w' b c x t p' P' ∧ Ch [c] w w' := by
  have hg : 0 ≠ c := by have := tab_lt h.tab; have := h.lo; omega
  refine (poll_any h.n h.sns h.lt (tab_ch h.tab h.l.ch (by simp)) hg n).mono ?_
  rintro e w' ⟨rfl, hs, hc⟩
  have e1 : pollL (fun r => endB t (sOf x r)) P p n = p' := hp
  rw [e1, hP] at hs
  rw [e1, hv]
  exact ⟨rfl, ⟨h.l.turn hc (by simpa using h.bc) (by simpa using h.lo), hs, h.bc, h.lo, h.tab, by rw [← hP]; exact pollP_lt h.lt p n⟩, hc⟩
theorem XL.looks (h : XL w0 w b c x t p P) {a : Option Addr} {cap n : Nat} {zs : List Int} (hl : zs.length = n) (hn : n ≤ 1000) (hz : Mk.IntsAt w a zs) (hb : zs = [] ∨ ∀ y, a = some y → y.block ≠ c) {p' : Nat → Bool} (hp : quietL (endF t x) p zs = p') :
    Calls Tryd.prog 17 #[.pointer (some ⟨c, 0, none⟩), .slice a n cap] w fun e w' => e = .returned (.int .i64 ((cntN p 64 : Int) - (cntN p' 64 : Int))) ∧ XL w0 w' b c x t p' P ∧ Ch [c] w w' := by
  subst hl
  refine (quiet_any (cap := cap) h.n h.sns hz hb hn).mono ?_
  rintro e w' ⟨rfl, hs, hc⟩
  have e1 : quietL (fun r => endB t (sOf x r)) p zs = p' := hp
  rw [e1] at hs
  rw [e1]
  exact ⟨rfl, ⟨h.l.turn hc (by simpa using h.bc) (by simpa using h.lo), hs, h.bc, h.lo, h.tab, h.lt⟩, hc⟩
theorem SL.scan (h : SL w0 w b x) (hT : Mk.Tab w0) :
    Calls Tryd.prog 8 #[.pointer (some ⟨b, 0, none⟩)] w fun e w' => ∃ c, e = .returned (.pointer (some ⟨c, 0, none⟩)) ∧ XL w0 w' b c x x.n (inP x) 0 ∧ w.heap.size ≤ c ∧ Ch [] w w' := by
  refine (new_any h.s).mono ?_
  rintro e w' ⟨c, rfl, hs, hlo, hc⟩
  exact ⟨c, rfl, ⟨h.quiet hc, hs, by have := h.s.lt; omega, Nat.le_trans h.ch.size hlo, hT, by decide⟩, hlo, hc⟩
end

/-- A reader's deed, of the program; of the answer's list. -/
def doS (x : SS) (r : Int) (o : Bool) : SS := if o = true then exitS x r else enterS x r
def doD (l : List (Nat × Bool)) (r : Int) (o : Bool) : List (Nat × Bool) := if o = true then deedsOut l r else deedsIn l r
theorem doD_run (l : List (Nat × Bool)) (r : Int) (o : Bool) : runS (doD l r o) = doS (runS l) r o := by
  cases o
  · exact runS_in l r
  · exact runS_out l r
theorem doD_len (l : List (Nat × Bool)) (r : Int) (o : Bool) : (doD l r o).length ≤ l.length + 1 := by
  cases o
  · exact deedsIn_len l r
  · exact deedsOut_len l r
theorem do_n (x : SS) (r : Int) (o : Bool) : x.n ≤ (doS x r o).n ∧ (doS x r o).n ≤ x.n + 1 := by
  cases o
  · exact enter_n x r
  · have := exit_n x r
    show x.n ≤ (exitS x r).n ∧ (exitS x r).n ≤ x.n + 1
    omega

set_option maxHeartbeats 1000000 in
theorem do_any {w0 w : World} {b D : Nat} {x : SS} {m : Value} {l : List (Nat × Bool)} (h : SL w0 w b x) (hx : x.n ≤ 100000) (hr : RD w D m l) (hl : l.length ≤ 900) (hD : D ≤ w.heap.size) (hb : b < D) (r : Int) (o : Bool) :
    Calls Tryd.prog 7 #[.pointer (some ⟨b, 0, none⟩), m, .agg #[.int .i64 r, .bool o]] w fun e w' => ∃ m', e = .returned m' ∧ RD w' D m' (doD l r o) ∧ (m' = m ∨ ∀ k, m'.ownBlock = some k → w.heap.size ≤ k) ∧ SL w0 w' b (doS x r o) ∧ Ch [b] w w' := by
  obtain ⟨p, cap, rfl⟩ := hr.form
  obtain ⟨n, hn⟩ : ∃ n, n = l.length := ⟨_, rfl⟩
  rw [← hn] at hr ⊢
  have H := Lib.hid h
  have HR := Lib.hid hr
  have HB := Lib.hid (show b < D ∧ D ≤ w.heap.size ∧ w.heap.size ≠ b by have := h.s.lt; omega)
  have HL := Lib.hid (And.intro hx (show l.length ≤ 900 from hl))
  clear h hr hx hl hD hb hn
  cases o with
  | false =>
    go_enter Tryd.func7, Tryd.ntmps7
    go_wp2_with fail
    obtain ⟨w1, hw1⟩ : ∃ W, W = w.alloc (.cells #[.int .i64 r, .bool false] 31) := ⟨_, rfl⟩
    have hal : Ch [] w w1 := by rw [hw1]; exact (Ch.refl [] w).alloc _
    have hal2 : Ch [b] w w1 := by rw [hw1]; exact (Ch.refl [b] w).alloc _
    have t2 := Two.new w (.int .i64 r) (.bool false) 31
    have hs1 : w.heap.size + 1 = w1.heap.size := by rw [hw1]; simp
    rw [← hw1] at t2
    rw [hs1, ← hw1]
    have H1 := H.out.quiet hal
    have C1 := Lib.hid (H1.enter r HL.out.1 (e := enterE x r) rfl 3)
    have HR1 := Lib.hid (HR.out.quiet hal)
    have HC1 := Lib.hid hal2
    have HT := Lib.hid t2
    obtain ⟨B, hB⟩ : ∃ B, B = w.heap.size := ⟨_, rfl⟩
    rw [← hB] at HT ⊢
    have HBw := Lib.hid (show B ≠ b ∧ B < w1.heap.size by have := HB.out; omega)
    clear hal hal2 t2 hs1 hw1 H1 hB
    with_reducible refine C1.out.mono ?_
    rintro e w2 ⟨rfl, h2, hc2⟩
    have q0 := (hc2.cell (p := ⟨B, 0, none⟩) HBw.out.2 (by simpa using HBw.out.1)).trans HT.out.c0
    have H2 := Lib.hid h2
    have HR2 := HR1.out.aside hc2 HB.out.1
    have HC2 := Lib.hid (HC1.out.trans hc2)
    have C2 := Lib.hid (renter_any HR2 HL.out.2 (Nat.le_trans HB.out.2.1 (HC1.out.trans hc2).size) r)
    clear h2 hc2 C1 HR2
    generalize enterE x r = ee at *
    go_wp2_with fail
    with_reducible refine C2.out.mono ?_
    rintro e w3 ⟨m3, rfl, hr3, hm3, hc3⟩
    obtain ⟨p3, cp3, rfl⟩ := hr3.form
    have H3 := Lib.hid (H2.out.quiet hc3)
    have HR3 := Lib.hid hr3
    have HM3 := Lib.hid (hm3.imp_right fun h k e => Nat.le_trans HC2.out.size (h k e))
    have HC3 := Lib.hid (HC2.out.trans (hc3.mono (by simp)))
    clear hr3 hc3 q0 hm3
    go_wp2_with fail
    go_ret
    exact ⟨_, rfl, HR3.out, HM3.out, H3.out, HC3.out⟩
  | true =>
    go_enter Tryd.func7, Tryd.ntmps7
    go_wp2_with fail
    obtain ⟨w1, hw1⟩ : ∃ W, W = w.alloc (.cells #[.int .i64 r, .bool true] 31) := ⟨_, rfl⟩
    have hal : Ch [] w w1 := by rw [hw1]; exact (Ch.refl [] w).alloc _
    have hal2 : Ch [b] w w1 := by rw [hw1]; exact (Ch.refl [b] w).alloc _
    have t2 := Two.new w (.int .i64 r) (.bool true) 31
    rw [← hw1] at t2
    rw [← hw1]
    have H1 := H.out.quiet hal
    have C1 := Lib.hid (H1.exit r (u := exitB x r) (e := exitE x r) rfl rfl)
    have HR1 := Lib.hid (HR.out.quiet hal)
    have HC1 := Lib.hid hal2
    have HT := Lib.hid t2
    have hs1 : w.heap.size + 1 = w1.heap.size := by rw [hw1]; simp
    obtain ⟨B, hB⟩ : ∃ B, B = w.heap.size := ⟨_, rfl⟩
    rw [← hB] at HT ⊢
    have HBw := Lib.hid (show B ≠ b ∧ B < w1.heap.size by have := HB.out; omega)
    clear hal hal2 t2 hs1 hw1 H1 hB
    with_reducible refine C1.out.mono ?_
    rintro e w2 ⟨rfl, h2, hc2⟩
    have q0 := (hc2.cell (p := ⟨B, 0, none⟩) HBw.out.2 (by simpa using HBw.out.1)).trans HT.out.c0
    have H2 := Lib.hid h2
    have HR2 := HR1.out.aside hc2 HB.out.1
    have HC2 := Lib.hid (HC1.out.trans hc2)
    have C2 := Lib.hid (rexit_any HR2 HL.out.2 (Nat.le_trans HB.out.2.1 (HC1.out.trans hc2).size) r)
    clear h2 hc2 C1 HR2
    generalize exitE x r = ee at *
    generalize exitB x r = eb at *
    go_wp2_with fail
    with_reducible refine C2.out.mono ?_
    rintro e w3 ⟨m3, rfl, hr3, hm3, hc3⟩
    obtain ⟨p3, cp3, rfl⟩ := hr3.form
    have H3 := Lib.hid (H2.out.quiet hc3)
    have HR3 := Lib.hid hr3
    have HM3 := Lib.hid (hm3.imp_right fun h k e => Nat.le_trans HC2.out.size (h k e))
    have HC3 := Lib.hid (HC2.out.trans (hc3.mono (by simp)))
    clear hr3 hc3 q0 hm3
    go_wp2_with fail
    go_ret
    exact ⟨_, rfl, HR3.out, HM3.out, H3.out, HC3.out⟩

def ky0 : SS := (enterL SS.zero [3, 5]).2
def ky1 : SS := exitS ky0 3
def ky2 : SS := enterS ky1 3
def kp1 : Nat → Bool := pollL (endF 2 ky2) 0 (inP ky0) 1
def kp2 : Nat → Bool := pollL (endF 2 ky2) 4 kp1 1
end Go.Proofs.YtlmepjpkaionbaaDoor

/-
  A scan in memory: New, Began, Left, Done, Place, hasEnded.
-/
import Derived.Test.YtlmepjpkaionbaaDoorSnA
import Derived.Test.YtlmepjpkaionbaaDoorSeNests
import Derived.Test.YtlmepjpkaionbaaDoorMk
namespace Go.Proofs.YtlmepjpkaionbaaDoor
open Go.RowKit

/-- A scan in a block of four cells. -/
structure Sn (w : World) (c : Nat) (pt : Value) (t : Int) (p : Nat → Bool) (P : Nat) : Prop where
  c0 : w.cell? ⟨c, 0, none⟩ = some pt
  c1 : w.cell? ⟨c, 1, none⟩ = some (.int .i64 t)
  c2 : w.cell? ⟨c, 2, none⟩ = some (.int .u64 ((mskN p : Nat) : Int))
  c3 : w.cell? ⟨c, 3, none⟩ = some (.int .i64 (P : Int))
  fr : ∀ k, w.frozen? ⟨c, k, none⟩ = false
section
variable {w w' : World} {c : Nat} {pt : Value} {t : Int} {p : Nat → Bool} {P : Nat}
theorem Sn.lt (h : Sn w c pt t p P) : c < w.heap.size := cell_lt h.c0
theorem Sn.ch {S : List Nat} (h : Sn w c pt t p P) (hc : Ch S w w') (hb : c ∉ S) : Sn w' c pt t p P :=
  ⟨(hc.cell (p := ⟨c, 0, none⟩) h.lt hb).trans h.c0, (hc.cell (p := ⟨c, 1, none⟩) h.lt hb).trans h.c1, (hc.cell (p := ⟨c, 2, none⟩) h.lt hb).trans h.c2, (hc.cell (p := ⟨c, 3, none⟩) h.lt hb).trans h.c3, fun k => (hc.frozen (p := ⟨c, k, none⟩) h.lt hb).trans (h.fr k)⟩
theorem Sn.drew (h : Sn w c pt t p P) : Sn w.drew c pt t p P := ⟨h.c0, h.c1, h.c2, h.c3, h.fr⟩
theorem Sn.setL (h : Sn w c pt t p P) (q : Nat → Bool) : Sn (w.setCell ⟨c, 2, none⟩ (.int .u64 ((mskN q : Nat) : Int))) c pt t q P :=
  ⟨setCell_other h.c0 (addr_ne_off (by omega)), setCell_other h.c1 (addr_ne_off (by omega)), setCell_same h.c2, setCell_other h.c3 (addr_ne_off (by omega)), fun k => by simpa using h.fr k⟩
theorem Sn.setP (h : Sn w c pt t p P) (Q : Nat) : Sn (w.setCell ⟨c, 3, none⟩ (.int .i64 (Q : Int))) c pt t p Q :=
  ⟨setCell_other h.c0 (addr_ne_off (by omega)), setCell_other h.c1 (addr_ne_off (by omega)), setCell_other h.c2 (addr_ne_off (by omega)), setCell_same h.c3, fun k => by simpa using h.fr k⟩
theorem Sn.new (w : World) (pt : Value) (t : Int) (p : Nat → Bool) (ty : TypeId) : Sn (w.alloc (.cells #[pt, .int .i64 t, .int .u64 ((mskN p : Nat) : Int), .int .i64 0] ty)) w.heap.size pt t p 0 :=
  ⟨by rw [World.cell?_alloc_at _ _ _ _ rfl]; rfl, by rw [World.cell?_alloc_at _ _ _ _ rfl]; rfl, by rw [World.cell?_alloc_at _ _ _ _ rfl]; rfl, by rw [World.cell?_alloc_at _ _ _ _ rfl]; rfl, fun k => World.frozen?_alloc_new w _ _ _⟩
end

/-- Where only a scan's block turns, the sections tell since when (f). -/
def Sns (w : World) (c : Nat) (pt : Value) (f : Int → Int) : Prop :=
  ∀ w', Ch [c] w w' → ∀ r, Calls Tryd.prog 44 #[pt, .int .i64 r] w' fun e w'' => e = .returned (.int .i64 (f r)) ∧ w' = w''
theorem Sns.ch {w w' : World} {c : Nat} {pt : Value} {f : Int → Int} (h : Sns w c pt f) (hc : Ch [c] w w') : Sns w' c pt f := fun w2 h2 r => h w2 (hc.trans h2) r
theorem Sns.of {w : World} {b c : Nat} {x : SS} (h : Sec w b x) (hb : b ≠ c) : Sns w c (.pointer (some ⟨b, 0, none⟩)) (sOf x) := fun _ hc r => since_any (h.ch hc (by simpa using hb)) r

theorem nil_stamp (w : World) : Calls Tryd.prog 21 #[.pointer none] w fun e w' => e = .returned (.int .i64 0) ∧ w = w' := by
  go_enter Tryd.func21, Tryd.ntmps21
  go_wp2
  go_ret
  exact ⟨rfl, rfl⟩
theorem nil_since (w : World) (r : Int) : Calls Tryd.prog 44 #[.pointer none, .int .i64 r] w fun e w' => e = .returned (.int .i64 0) ∧ w = w' := by
  go_enter Tryd.func44, Tryd.ntmps44
  go_wp2
  go_ret
  exact ⟨rfl, rfl⟩
theorem Sns.nil (w : World) (c : Nat) : Sns w c (.pointer none) (fun _ => 0) := fun _ _ r => nil_since _ r
theorem nil_in (w : World) : Calls Tryd.prog 29 #[.pointer none] w fun e w' => e = .returned (.int .u64 ((mskN (fun _ => false) : Nat) : Int)) ∧ Ch [] w w' := by
  have hal := (Ch.refl [] w).alloc (.cells #[.pointer none] 29)
  have H := Lib.hid (maskOf_any (w := w.alloc (.cells #[.pointer none] 29)) (p := none) (F := 42) (lb := #[.pointer (some ⟨w.heap.size, 0, none⟩)]) (q := fun _ => false)
    (enters_of Tryd.func42 (by kernel_rfl) rfl) (fun _ => by simp [selC]) (fun a e => by cases e))
  have HAl := Lib.hid hal
  clear hal
  go_enter Tryd.func29, Tryd.ntmps29
  go_wp2_with fail
  with_reducible refine H.out.mono ?_
  rintro e w1 ⟨rfl, hc⟩
  go_wp2_with fail
  go_ret
  exact ⟨rfl, HAl.out.trans hc⟩

set_option maxHeartbeats 1000000 in
theorem new_core {w w1 : World} {p : Option Addr} {t : Int} {q : Nat → Bool}
    (hs : Calls Tryd.prog 21 #[.pointer p] w fun e w' => e = .returned (.int .i64 t) ∧ w = w')
    (hi : Calls Tryd.prog 29 #[.pointer p] w fun e w' => e = .returned (.int .u64 ((mskN q : Nat) : Int)) ∧ Ch [] w w') (h1 : w1 = w) :
    Calls Tryd.prog 8 #[.pointer p] w1 fun e w' => ∃ c, e = .returned (.pointer (some ⟨c, 0, none⟩)) ∧ Sn w' c (.pointer p) t q 0 ∧ w1.heap.size ≤ c ∧ Ch [] w1 w' := by
  subst h1
  have HS := Lib.hid hs
  have HI := Lib.hid hi
  obtain ⟨M, hM⟩ : ∃ M, M = mskN q := ⟨_, rfl⟩
  rw [← hM] at HI
  have HM := Lib.hid hM
  clear hs hi hM
  go_enter Tryd.func8, Tryd.ntmps8
  go_wp2_with fail
  with_reducible refine HS.out.mono ?_
  rintro e w' ⟨rfl, rfl⟩
  go_wp2_with fail
  with_reducible refine HI.out.mono ?_
  rintro e w2 ⟨rfl, hc⟩
  have HC := Lib.hid hc
  clear hc HS HI
  go_wp2_with fail
  go_ret
  refine ⟨_, rfl, ?_, HC.out.size, HC.out.alloc _⟩
  rw [HM.out]
  exact Sn.new _ _ _ _ _
theorem new_any {w : World} {b : Nat} {x : SS} (h : Sec w b x) :
    Calls Tryd.prog 8 #[.pointer (some ⟨b, 0, none⟩)] w fun e w' => ∃ c, e = .returned (.pointer (some ⟨c, 0, none⟩)) ∧ Sn w' c (.pointer (some ⟨b, 0, none⟩)) x.n (inP x) 0 ∧ w.heap.size ≤ c ∧ Ch [] w w' :=
  new_core (stamp_any h) (in_any h) rfl
theorem new_nil (w : World) :
    Calls Tryd.prog 8 #[.pointer none] w fun e w' => ∃ c, e = .returned (.pointer (some ⟨c, 0, none⟩)) ∧ Sn w' c (.pointer none) 0 (fun _ => false) 0 ∧ w.heap.size ≤ c ∧ Ch [] w w' :=
  new_core (nil_stamp w) (nil_in w) rfl

section
variable {w : World} {c : Nat} {pt : Value} {t : Int} {p : Nat → Bool} {P : Nat}
theorem began_any (h : Sn w c pt t p P) {v : Int} (hv : t = v) : Calls Tryd.prog 10 #[.pointer (some ⟨c, 0, none⟩)] w fun e w' => e = .returned (.int .i64 v) ∧ w = w' := by
  subst hv
  have c1 := h.c1
  clear h
  go_enter Tryd.func10, Tryd.ntmps10
  go_wp2
  go_ret
  exact ⟨rfl, rfl⟩
theorem place_any (h : Sn w c pt t p P) {v : Int} (hv : (P : Int) = v) : Calls Tryd.prog 18 #[.pointer (some ⟨c, 0, none⟩)] w fun e w' => e = .returned (.int .i64 v) ∧ w = w' := by
  subst hv
  have c1 := h.c3
  clear h
  go_enter Tryd.func18, Tryd.ntmps18
  go_wp2
  go_ret
  exact ⟨rfl, rfl⟩
theorem left_any (h : Sn w c pt t p P) {m : Nat} (hm : mskN p = m) : Calls Tryd.prog 11 #[.pointer (some ⟨c, 0, none⟩)] w fun e w' => e = .returned (.int .u64 (m : Int)) ∧ w = w' := by
  have c1 := h.c2
  rw [hm] at c1
  clear h hm
  go_enter Tryd.func11, Tryd.ntmps11
  go_wp2
  go_ret
  exact ⟨rfl, rfl⟩
theorem done_any (h : Sn w c pt t p P) {d : Bool} (hd : decide (cntN p 64 = 0) = d) : Calls Tryd.prog 19 #[.pointer (some ⟨c, 0, none⟩)] w fun e w' => e = .returned (.bool d) ∧ w = w' := by
  obtain ⟨m, hm⟩ : ∃ m, mskN p = m := ⟨_, rfl⟩
  have H := Lib.hid (left_any h hm)
  have hd2 : ((m : Int) == 0) = d := by
    rw [← hd, ← hm, Bool.eq_iff_iff, decide_eq_true_eq, beq_iff_eq, ← msk_zero]
    omega
  rw [← hd2]
  clear h hm hd hd2
  go_enter Tryd.func19, Tryd.ntmps19
  go_wp2_with fail
  with_reducible refine H.out.mono ?_
  rintro e w' ⟨rfl, rfl⟩
  go_wp2_with fail
  go_ret
  exact ⟨rfl, rfl⟩
/-- Has the section in which one was when a scan began ended, since it is in one of stamp s? -/
def endB (t s : Int) : Bool := decide (s = 0) || decide (t < s)
theorem ended_any (h : Sn w c pt t p P) {f : Int → Int} (hf : Sns w c pt f) (r : Int) : Calls Tryd.prog 33 #[.pointer (some ⟨c, 0, none⟩), .int .i64 r] w fun e w' => e = .returned (.bool (endB t (f r))) ∧ w = w' := by
  have H := Lib.hid (hf w (Ch.refl _ _) r)
  have c0 := h.c0
  have c1 := h.c1
  clear h hf
  unfold endB
  generalize f r = s at *
  by_cases h0 : s = 0
  · subst h0
    go_enter Tryd.func33, Tryd.ntmps33
    go_wp2_with fail
    with_reducible refine H.out.mono ?_
    rintro e w' ⟨rfl, rfl⟩
    go_wp2_with fail
    go_ret
    exact ⟨rfl, rfl⟩
  · have h1 : (s == 0) = false := by simpa using h0
    rw [decide_eq_false h0, Bool.false_or]
    clear h0
    go_enter Tryd.func33, Tryd.ntmps33
    go_wp2_with fail
    with_reducible refine H.out.mono ?_
    rintro e w' ⟨rfl, rfl⟩
    go_wp2_with fail
    go_ret
    exact ⟨rfl, rfl⟩
end
end Go.Proofs.YtlmepjpkaionbaaDoor

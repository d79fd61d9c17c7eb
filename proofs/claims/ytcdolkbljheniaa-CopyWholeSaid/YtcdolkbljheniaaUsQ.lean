/-
  Do: one call that came in, on both.
-/
import Derived.Test.YtcdolkbljheniaaUsP
namespace Go.Proofs.Ytcdolkbljheniaa
open Go.RowKit

/-- A call in a box. -/
structure Box5 (w : World) (b : Nat) (K P A M : Int) (V : Value) : Prop where
  c0 : w.cell? ⟨b, 0, none⟩ = some (.int .i64 K)
  c1 : w.cell? ⟨b, 1, none⟩ = some (.int .i64 P)
  c2 : w.cell? ⟨b, 2, none⟩ = some (.int .i64 A)
  c3 : w.cell? ⟨b, 3, none⟩ = some (.int .i64 M)
  c4 : w.cell? ⟨b, 4, none⟩ = some V
theorem Box5.new (w : World) (K P A M : Int) (V : Value) (t : TypeId) : Box5 (w.alloc (.cells #[.int .i64 K, .int .i64 P, .int .i64 A, .int .i64 M, V] t)) w.heap.size K P A M V :=
  ⟨by rw [World.cell?_alloc_at _ _ _ _ rfl]; rfl, by rw [World.cell?_alloc_at _ _ _ _ rfl]; rfl, by rw [World.cell?_alloc_at _ _ _ _ rfl]; rfl, by rw [World.cell?_alloc_at _ _ _ _ rfl]; rfl, by rw [World.cell?_alloc_at _ _ _ _ rfl]; rfl⟩
theorem Box5.ch {w w' : World} {b : Nat} {K P A M : Int} {V : Value} {S : List Nat} (h : Box5 w b K P A M V) (hc : Ch S w w') (hb : b ∉ S) : Box5 w' b K P A M V :=
  ⟨(hc.cell (p := ⟨b, 0, none⟩) (cell_lt h.c0) hb).trans h.c0, (hc.cell (p := ⟨b, 1, none⟩) (cell_lt h.c1) hb).trans h.c1, (hc.cell (p := ⟨b, 2, none⟩) (cell_lt h.c2) hb).trans h.c2, (hc.cell (p := ⟨b, 3, none⟩) (cell_lt h.c3) hb).trans h.c3, (hc.cell (p := ⟨b, 4, none⟩) (cell_lt h.c4) hb).trans h.c4⟩

set_option maxRecDepth 20000 in
set_option maxHeartbeats 4000000 in
theorem do_any {w0 w : World} {b g N cap : Nat} {x : MS} (h : UP w0 w b g N x) (K P A M : Int) (v : Option Addr) (len cap2 : Nat) (hA : A ≤ 9223372036854775807) (hlc : len ≤ cap2) {l : List Int} (hl : l.length = len) (hb : BytesAt w v l) :
    Calls Try.prog 10 #[.pointer (some ⟨b, 0, none⟩), .slice (some ⟨g, 0, none⟩) N cap, .agg #[.int .i64 K, .int .i64 P, .int .i64 A, .int .i64 M, .slice v len cap2]] w fun e w' => ∃ g' cp, e = .returned (.tuple #[.slice (some ⟨g', 0, none⟩) N cp, .bool true]) ∧ ∃ y, UP w0 w' b g' N y ∧ UQ w w' b g g' := by
  have u0 : 0 ≤ IntKind.u64.wrap K ∧ IntKind.u64.wrap K < 18446744073709551616 := by rw [IntKind.wrap_u64]; omega
  generalize hg0 : IntKind.u64.wrap K = U0 at u0
  obtain ⟨u00, u01⟩ := u0
  obtain ⟨m, hm⟩ : ∃ m, m = min len 300 := ⟨_, rfl⟩
  have hmin : (if (300 : Int) < (len : Int) then (300 : Int) else (len : Int)) = (m : Int) := by split <;> omega
  have hmc : (m : Int) ≤ (cap2 : Int) := by omega
  obtain ⟨L, hL⟩ : ∃ L, L = l.take m := ⟨_, rfl⟩
  have hLm : L.length = m := by rw [hL, List.length_take]; omega
  obtain ⟨B, hB⟩ : ∃ B, B = w.heap.size := ⟨_, rfl⟩
  obtain ⟨w1, hw1⟩ : ∃ W, W = w.alloc (.cells #[.int .i64 K, .int .i64 P, .int .i64 A, .int .i64 M, .slice v len cap2] 35) := ⟨_, rfl⟩
  have hc1 : Ch [] w w1 := by rw [hw1]; exact (Ch.refl _ _).alloc _
  have HX := Lib.hid (show Box5 w1 B K P A M (.slice v len cap2) from by rw [hw1, hB]; exact Box5.new _ _ _ _ _ _ _)
  have HH := Lib.hid (h.quiet hc1)
  have HK := Lib.hid hc1
  have HL := Lib.hid (show BytesAt w1 v L from by rw [hL]; exact (hb.ch hc1 (by simp)).take m)
  have HLm := Lib.hid hLm
  have hm300 : m ≤ 300 := by omega
  have HB := Lib.hid hB
  have HW := Lib.hid hw1
  clear hm hlc hL hLm hc1 h hb hl hB hw1
  go_enter Try.func10, Try.ntmps10
  go_wp2_with fail
  all_goals (rw [← HW.out, ← HB.out]; clear hmin hmc hg0 u00 u01)
  · have C := Lib.hid (HH.out.poke cap A hA (cap2 := cap2) HLm.out (by omega) HL.out)
    with_reducible refine C.out.mono ?_
    rintro e w2 ⟨g', cp, E, rfl, hc2, C2⟩
    have c1 := (HX.out.ch hc2 (by simp)).c2
    clear hc2 C HH HX HL
    go_wp2_with fail
    with_reducible refine C2.out.mono ?_
    rintro e w3 ⟨rfl, y, hy, hq⟩
    have HY := Lib.hid hy
    have HQ := Lib.hid (hq.quiet HK.out)
    clear hy hq C2 c1
    go_wp2
    go_ret2
    exact ⟨g', cp, rfl, y, HY.out, HQ.out⟩
  · have C := Lib.hid (HH.out.turn0 cap P)
    with_reducible refine C.out.mono ?_
    rintro e w2 ⟨g', cp, E, rfl, hc2, C2⟩
    have c1 := (HX.out.ch hc2 (by simp)).c1
    clear hc2 C HH HX HL
    go_wp2_with fail
    with_reducible refine C2.out.mono ?_
    rintro e w3 ⟨rfl, y, hy, hq⟩
    have HY := Lib.hid hy
    have HQ := Lib.hid (hq.quiet HK.out)
    clear hy hq C2 c1
    go_wp2
    go_ret2
    exact ⟨g', cp, rfl, y, HY.out, HQ.out⟩
  · have C := Lib.hid (HH.out.turn1 cap P)
    with_reducible refine C.out.mono ?_
    rintro e w2 ⟨g', cp, E, rfl, hc2, C2⟩
    have c1 := (HX.out.ch hc2 (by simp)).c1
    clear hc2 C HH HX HL
    go_wp2_with fail
    with_reducible refine C2.out.mono ?_
    rintro e w3 ⟨rfl, y, hy, hq⟩
    have HY := Lib.hid hy
    have HQ := Lib.hid (hq.quiet HK.out)
    clear hy hq C2 c1
    go_wp2
    go_ret2
    exact ⟨g', cp, rfl, y, HY.out, HQ.out⟩
  · have C := Lib.hid (HH.out.turn2 cap P)
    with_reducible refine C.out.mono ?_
    rintro e w2 ⟨g', cp, E, rfl, hc2, C2⟩
    have c1 := (HX.out.ch hc2 (by simp)).c1
    clear hc2 C HH HX HL
    go_wp2_with fail
    with_reducible refine C2.out.mono ?_
    rintro e w3 ⟨rfl, y, hy, hq⟩
    have HY := Lib.hid hy
    have HQ := Lib.hid (hq.quiet HK.out)
    clear hy hq C2 c1
    go_wp2
    go_ret2
    exact ⟨g', cp, rfl, y, HY.out, HQ.out⟩
  · have C := Lib.hid (HH.out.peek cap A M hA)
    with_reducible refine C.out.mono ?_
    rintro e w2 ⟨p, k, cp, E, L2, rfl, -, hc2, hL2, C2⟩
    have c2 := (HX.out.ch hc2 (by simp)).c2
    have c3 := (HX.out.ch hc2 (by simp)).c3
    clear hc2 C HH HX HL
    go_wp2_with fail
    with_reducible refine C2.out.mono ?_
    rintro e w3 ⟨p2, cp2, rfl, h3⟩
    have C3 := Lib.hid (same_any cp cp2 hL2.out.1 (Nat.le_trans hL2.out.2.1 (by decide)) h3.out.1 h3.out.2.1)
    clear C2 c2 c3
    go_wp2_with fail
    with_reducible refine C3.out.mono ?_
    rintro e w4 ⟨rfl, hc4⟩
    have HY := Lib.hid (h3.out.2.2.1.quiet hc4)
    have HQ := Lib.hid ((UQ.refl w b g).then (HK.out.trans (h3.out.2.2.2.trans hc4)))
    clear hc4 C3 h3 hL2
    go_wp2
    go_ret2
    exact ⟨g, cap, rfl, x, HY.out, HQ.out⟩
  · obtain ⟨p, q, C1, C2⟩ := HH.out.touch cap A M hA
    have C1 := Lib.hid C1
    have C2 := Lib.hid C2
    have c2 := HX.out.c2
    have c3 := HX.out.c3
    clear HX HL
    with_reducible refine C1.out.mono ?_
    rintro e w' ⟨rfl, rfl⟩
    go_wp2_with fail
    with_reducible refine C2.out.mono ?_
    rintro e w' ⟨rfl, rfl⟩
    go_wp2
    go_ret2
    exact ⟨g, cap, rfl, x, HH.out, (UQ.refl w b g).then HK.out⟩
end Go.Proofs.Ytcdolkbljheniaa

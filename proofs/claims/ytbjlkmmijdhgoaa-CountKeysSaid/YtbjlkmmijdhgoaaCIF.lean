/-
  Counts by keys of int: Value; NewRefs; nil ones.
-/
import Derived.Test.YtbjlkmmijdhgoaaCIE
namespace Go.Proofs.Ytbjlkmmijdhgoaa.cI
open Go.RowKit Go.Maps

attribute [local go_sem] Oper.semAt_some

theorem value_in {w : World} {R M top : Nat} {A B : List Ent} {e : Ent} (h : RF w R M top (A ++ e :: B)) :
    Calls Try.prog 24 #[.pointer (some ⟨R, 0, none⟩), kv e.k] w fun r w' => r = .returned (.int .i64 (e.n : Int)) ∧ Ch [] w w' := by
  have HF := Lib.hid (find_in h)
  have H := Lib.hid h
  clear h
  go_enter Try.func24, Try.ntmps24
  go_wp2_with fail
  with_reducible refine HF.out.mono ?_
  rintro r w1 ⟨rfl, hc1⟩
  have hc2 := hc1.alloc (.cells #[.pointer (some ⟨e.b, 0, none⟩), kv e.k] 79)
  have H2 := Lib.hid (H.out.quiet hc2)
  have HC2 := Lib.hid hc2
  clear hc1 hc2 HF H
  go_wp2_with fail
  generalize w1.alloc (.cells #[.pointer (some ⟨e.b, 0, none⟩), kv e.k] 79) = w2 at *
  with_reducible refine (value_any (H2.out.cnt e (by simp)).1).mono ?_
  rintro r w3 ⟨rfl, rfl⟩
  go_wp2
  go_ret
  exact ⟨rfl, HC2.out⟩
theorem value_not {w : World} {p : Option Addr} {k : K} (HF : Calls Try.prog 32 #[.pointer p, kv k] w fun r w' => r = .returned (.tuple #[rv none k0, .bool false]) ∧ Ch [] w w') :
    Calls Try.prog 24 #[.pointer p, kv k] w fun r w' => r = .returned (.int .i64 0) ∧ Ch [] w w' := by
  have HF := Lib.hid HF
  go_enter Try.func24, Try.ntmps24
  go_wp2_with fail
  with_reducible refine HF.out.mono ?_
  rintro r w1 ⟨rfl, hc1⟩
  have HC2 := Lib.hid (hc1.alloc (.cells #[.pointer none, kv k0] 79))
  clear hc1 HF
  go_wp2_with fail
  with_reducible refine (value_nil _).mono ?_
  rintro r w3 ⟨rfl, rfl⟩
  go_wp2
  go_ret
  exact ⟨rfl, HC2.out⟩

theorem refs_bad (top : Int) (w : World) (h : top < 1 ∨ 65535 < top) : Calls Try.prog 18 #[.int .i64 top] w fun r w' => r = .returned (.tuple #[.pointer none, .int .i64 2]) ∧ w' = w := by
  by_cases h0 : top < 1
  · have hd1 : decide (top < 1) = true := by simpa using h0
    clear h
    go_enter Try.func18, Try.ntmps18
    go_wp2
    go_ret2
    exact ⟨rfl, rfl⟩
  · have hd1 : decide (top < 1) = false := by simpa using h0
    have hd2 : decide (65535 < top) = true := by simp; omega
    clear h
    go_enter Try.func18, Try.ntmps18
    go_wp2
    go_ret2
    exact ⟨rfl, rfl⟩

theorem refs_new (top : Nat) (w : World) (S : Nat) (hS : w.heap.size = S) (h1 : 1 ≤ top) (h2 : top ≤ 65535) :
    Calls Try.prog 18 #[.int .i64 (top : Int)] w fun r w' => r = .returned (.tuple #[.pointer (some ⟨S + 1, 0, none⟩), .int .i64 0]) ∧ RF w' (S + 1) S top [] ∧ Ch [] w w' ∧ w'.heap.size = S + 2 := by
  have HO := Lib.hid (World.ownsMap_made w Try.prog 83 rd)
  obtain ⟨w1, hw1⟩ : ∃ w1, w1 = w.alloc (.map #[] 0) := ⟨_, rfl⟩
  have hz1 : w1.heap.size = S + 1 := by rw [hw1]; simp [hS]
  have hc1 : Ch [] w w1 := by rw [hw1]; exact (Ch.refl [] w).alloc _
  have HB := Lib.hid (Box2.new w1 (.int .i64 (top : Int)) (.map (some S)) 76)
  have HC := Lib.hid (hc1.alloc (.cells #[.int .i64 (top : Int), .map (some S)] 76))
  have HZ := Lib.hid (show (w1.alloc (.cells #[.int .i64 (top : Int), .map (some S)] 76)).heap.size = S + 2 by simp [hz1])
  rw [← hw1, hS] at HO
  rw [hz1] at HB
  have HOB := Lib.hid (own_ch HO.out ((Ch.refl [] w1).alloc (.cells #[.int .i64 (top : Int), .map (some S)] 76)) (by simp))
  rw [hw1] at HB HC HZ HOB
  have HS := Lib.hid hS
  obtain ⟨T, hT⟩ : ∃ T : Int, T = (top : Int) := ⟨_, rfl⟩
  have hd1 : decide (T < 1) = false := by simp; omega
  have hd2 : decide (65535 < T) = false := by simp; omega
  rw [← hT] at HB HC HZ HOB ⊢
  have HT := Lib.hid hT
  have hmm := @run_makeMap Try.prog
  clear hS hz1 hc1 hw1 HO hT
  go_enter Try.func18, Try.ntmps18
  go_wp2
  go_ret2
  rw [HS.out]
  refine ⟨rfl, ⟨by rw [← HT.out]; exact HB.out.c0, HB.out.c1, ⟨_, HOB.out, Vw.empty⟩, by simp, by simp, ⟨h1, h2⟩, by simp⟩, HC.out, HZ.out⟩
end Go.Proofs.Ytbjlkmmijdhgoaa.cI

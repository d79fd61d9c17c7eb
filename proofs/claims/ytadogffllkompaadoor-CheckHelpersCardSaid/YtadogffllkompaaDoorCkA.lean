/-
  The helpers of both; whether an instruction is there, and where a jump leads.
-/
import Derived.Test.YtadogffllkompaaDoorCkP
import Derived.Test.YtadogffllkompaaDoorIsS
import Derived.BigQuiet
namespace Go.Proofs.YtadogffllkompaaDoor
open Go.RowKit Go.BigFrame

attribute [local go_sem] Oper.semAt_some

/-- The helpers' names, and how many arguments they have, by numbers from 1 on. -/
def hN : List (List UInt8) := [[110, 111, 119], [99, 112, 117], [102, 105, 110, 100], [112, 117, 116], [100, 114, 111, 112], [105, 110, 105, 116], [99, 97, 108, 108, 98, 97, 99, 107], [115, 116, 97, 114, 116], [99, 97, 110, 99, 101, 108], [115, 116, 111, 112], [119, 111, 114, 107], [113, 117, 101, 117, 101], [99, 111, 112, 121, 105, 110], [99, 111, 112, 121, 111, 117, 116], [101, 109, 105, 116], [112, 97, 117, 115, 101]]
def hA : List Int := [0, 0, 2, 4, 2, 1, 2, 4, 1, 1, 2, 1, 3, 3, 1, 0]
def hnm (z : Int) : List UInt8 := if hlp z = true then hN.getD (z - 1).toNat [] else []
def har (z : Int) : Int := if hlp z = true then hA.getD (z - 1).toNat 0 else 0
/-- The tables that the program reads: the helpers, and that of math/bits. -/
structure Tb (w : World) : Prop where
  nam : ∀ j, j < 16 → w.cell? ⟨0, (j + 1) * 2, none⟩ = some (.string ⟨(hN.getD j []).toArray⟩)
  arg : ∀ j, j < 16 → w.cell? ⟨0, (j + 1) * 2 + 1, none⟩ = some (.int .i64 (hA.getD j 0))
  tab : Mk.Tab w
theorem Tb.ch {w w' : World} (h : Tb w) (hc : Ch [] w w') : Tb w' :=
  ⟨fun j hj => (hc.cell (p := ⟨0, (j + 1) * 2, none⟩) (cell_lt (h.nam j hj)) (by simp)).trans (h.nam j hj),
   fun j hj => (hc.cell (p := ⟨0, (j + 1) * 2 + 1, none⟩) (cell_lt (h.arg j hj)) (by simp)).trans (h.arg j hj),
   fun j hj => (hc.cell (p := ⟨1, j, none⟩) (cell_lt (h.tab j hj)) (by simp)).trans (h.tab j hj)⟩
/-- What Helper tells of a number. -/
def hV (z : Int) : Value := .tuple #[.string ⟨(hnm z).toArray⟩, .int .i64 (har z), .bool (hlp z)]

theorem help_any (z : Int) {w : World} (hT : Tb w) : Calls Tryd.prog 8 #[.int .i64 z] w fun e w' => e = .returned (hV z) ∧ ∃ n, w' = w.drewN n := by
  unfold hV hnm har
  by_cases h : hlp z = true
  · rw [if_pos h, if_pos h, h]
    unfold hlp at h
    rw [decide_eq_true_eq] at h
    obtain ⟨k, rfl⟩ : ∃ k : Nat, z = (k : Int) + 1 := ⟨(z - 1).toNat, by omega⟩
    have hk : k < 16 := by omega
    rw [show ((k : Int) + 1 - 1).toNat = k by omega]
    have h1 := hT.nam k hk
    have h2 := hT.arg k hk
    have d1 : ¬ (k : Int) + 1 < 1 := by omega
    have d2 : ¬ 16 < (k : Int) + 1 := by omega
    have e1 : ((k : Int) + 1).toNat = k + 1 := by omega
    have e2 : ¬ (k : Int) + 1 < 0 := by omega
    have e3 : (k : Int) + 1 < 17 := by omega
    generalize hN.getD k [] = nm at *
    generalize hA.getD k 0 = ar at *
    clear hT h
    go_enter Tryd.func8, Tryd.ntmps8
    go_wp2_with fail
    go_quiet (fail)
    go_wp2_with fail
    refine bodyPost_ret (v := .tuple #[.string ⟨nm.toArray⟩, .int .i64 ar, .bool true]) ?_ rfl ?_
    · simp [results, Tryd.f8, go_sem]
    exact ⟨rfl, _, rfl⟩
  · rw [if_neg h, if_neg h]
    have hf : hlp z = false := by simpa using h
    rw [hf]
    unfold hlp at hf
    have HF := Lib.hid (of_decide_eq_false hf)
    clear h hf
    by_cases h1 : z < 1
    · go_enter Tryd.func8, Tryd.ntmps8
      go_wp2_with fail
      refine bodyPost_ret (v := .tuple #[.string ⟨#[]⟩, .int .i64 0, .bool false]) ?_ rfl ?_
      · simp [results, Tryd.f8, go_sem]
      exact ⟨rfl, 0, rfl⟩
    · have h2 : 16 < z := by have := HF.out; omega
      go_enter Tryd.func8, Tryd.ntmps8
      go_wp2_with fail
      refine bodyPost_ret (v := .tuple #[.string ⟨#[]⟩, .int .i64 0, .bool false]) ?_ rfl ?_
      · simp [results, Tryd.f8, go_sem]
      exact ⟨rfl, 0, rfl⟩
theorem there_any (n cap : Nat) (a : Option Addr) (z : Int) (w : World) : Calls Tryd.prog 40 #[.slice a n cap, .int .i64 z] w fun e w' => e = .returned (.bool (inn n z)) ∧ w' = w := by
  unfold inn
  by_cases h0 : 0 ≤ z
  · obtain ⟨b, hb⟩ : ∃ b, decide (z < (n : Int)) = b := ⟨_, rfl⟩
    have hr : decide (0 ≤ z ∧ z < (n : Int)) = b := by rw [← hb]; simp [h0]
    rw [hr]
    clear hr
    go_enter Tryd.func40, Tryd.ntmps40
    go_wp2_with fail
    go_ret
    exact ⟨rfl, rfl⟩
  · have hr : decide (0 ≤ z ∧ z < (n : Int)) = false := decide_eq_false (by omega)
    rw [hr]
    clear hr
    go_enter Tryd.func40, Tryd.ntmps40
    go_wp2_with fail
    go_ret
    exact ⟨rfl, rfl⟩
theorem target_any {n cap b off : Nat} {L : List I5} (k : Nat) (hL : L.length = n) (hk : k < n) {w : World} (hI : ∀ i (hi : i < L.length), FiveO w b (off + i * 5) L[i]) : Calls Tryd.prog 42 #[.slice (some ⟨b, off, none⟩) n cap, .int .i64 (k : Int)] w fun e w' => e = .returned (.int .i64 (tg (k : Int) (ia L k).o)) ∧ w' = w := by
  have h3 := (hI k (by omega)).c3
  rw [ia_at (by omega)] at h3
  have hkn : (k : Int) < (n : Int) := by omega
  unfold tg
  generalize (ia L k).o = o at *
  clear hI hL
  go_enter Tryd.func42, Tryd.ntmps42
  go_wp2_with fail
  go_ret
  exact ⟨rfl, rfl⟩
end Go.Proofs.YtadogffllkompaaDoor

/-
  A new copy in; a new copy out.
-/
import Derived.Test.YtcdolkbljheniaaCpC
namespace Go.Proofs.Ytcdolkbljheniaa
open Go.RowKit

theorem mk_func (fn : Fn) (fi ca : Array Value) (w : World) : (Instr.makeFunc fn fi ca).run Try.prog w = .ok (.func fn fi ca) w := rfl
/-- The cells of a block that was just made. -/
theorem at_new (w : World) (cs : Array Value) (t : TypeId) (i : Nat) : (w.alloc (.cells cs t)).cell? ⟨w.heap.size, i, none⟩ = cs[i]? := World.cell?_alloc_at _ _ _ _ rfl
theorem old_cell {w : World} {p : Addr} {v : Value} (o : Obj) (h : w.cell? p = some v) : (w.alloc o).cell? p = some v := (((Ch.refl [] w).alloc o).cell (p := p) (cell_lt h) (by simp)).trans h
theorem in_bad {a m : Int} (hm : m < 0 ∨ 64 < m) (w : World) :
    Calls Try.prog 11 #[.int .i64 a, .int .i64 m] w fun e w' => e = .returned (.tuple #[.pointer none, .int .i64 1]) ∧ Ch [] w w' := by
  have HC := Lib.hid ((Ch.refl [] w).alloc (.cells #[.int .i64 m] 3))
  by_cases h0 : m < 0
  · clear hm
    go_enter Try.func11, Try.ntmps11
    go_wp2
    go_ret2
    exact ⟨rfl, HC.out⟩
  · have h1 : 64 < m := by omega
    clear hm
    go_enter Try.func11, Try.ntmps11
    go_wp2
    go_ret2
    exact ⟨rfl, HC.out⟩
theorem in_ok {a : Int} (ha : a ≤ 9223372036854775807) {n : Nat} (hn : n ≤ 64) (w : World) :
    Calls Try.prog 11 #[.int .i64 a, .int .i64 (n : Int)] w fun e w' => ∃ c, e = .returned (.tuple #[.pointer (some ⟨c, 0, none⟩), .int .i64 0]) ∧ CC w' w.heap.size c c (CZ.inn a n) ∧ Ch [] w w' := by
  have hmf := mk_func
  have h1 : ¬ 64 < n := by omega
  have h1' : ¬ (64 : Int) < (n : Int) := by omega
  have h2' : decide ((n : Int) > 64) = false := decide_eq_false (by omega)
  obtain ⟨o1, ho1⟩ : ∃ o, o = Obj.cells #[.int .i64 (n : Int)] 3 := ⟨_, rfl⟩
  obtain ⟨o2, ho2⟩ : ∃ o, o = Obj.cells #[.int .i64 a, .int .i64 (n : Int)] 77 := ⟨_, rfl⟩
  obtain ⟨o3, ho3⟩ : ∃ o, o = Obj.cells #[.int .i64 a, .int .i64 (n : Int), .slice none 0 0, .func (.func 32) #[] #[.pointer (some ⟨w.heap.size + 1, 0, none⟩), .pointer (some ⟨w.heap.size, 0, none⟩)], .int .i64 0, .int .i64 0] 81 := ⟨_, rfl⟩
  have HX := Lib.hid (show CC (((w.alloc o1).alloc o2).alloc o3) w.heap.size (w.heap.size + 2) (w.heap.size + 2) (CZ.inn a n) from by
    have s1 : (w.alloc o1).heap.size = w.heap.size + 1 := by simp
    have s2 : ((w.alloc o1).alloc o2).heap.size = w.heap.size + 2 := by simp
    have a1 : (w.alloc o1).cell? ⟨w.heap.size, 0, none⟩ = some (.int .i64 (n : Int)) := by rw [ho1, at_new]; rfl
    have a2 : ∀ i, ((w.alloc o1).alloc o2).cell? ⟨w.heap.size + 1, i, none⟩ = (#[.int .i64 a, .int .i64 (n : Int)] : Array Value)[i]? := fun i => by rw [← s1, ho2, at_new]
    have a3 : ∀ i, (((w.alloc o1).alloc o2).alloc o3).cell? ⟨w.heap.size + 2, i, none⟩ = (#[.int .i64 a, .int .i64 (n : Int), .slice none 0 0, .func (.func 32) #[] #[.pointer (some ⟨w.heap.size + 1, 0, none⟩), .pointer (some ⟨w.heap.size, 0, none⟩)], .int .i64 0, .int .i64 0] : Array Value)[i]? := fun i => by rw [← s2, ho3, at_new]
    refine ⟨by omega, by simp, a3 0, a3 1, ⟨none, 0, a3 2, .inl rfl, by simp, by simp⟩, ⟨w.heap.size + 1, w.heap.size, a3 3, fun _ => ⟨by omega, by omega, by omega, by omega, by omega, by omega, old_cell _ (a2 0), fun _ => ⟨old_cell _ (a2 1), old_cell _ (old_cell _ a1)⟩, fun e => by cases e⟩⟩, a3 4, a3 5, fun k => ?_, ha, hn, by simp [CZ.inn], fun e => by cases e⟩
    rw [← s2, ho3]
    exact World.frozen?_alloc_new _ _ _ _)
  have HC := Lib.hid ((((Ch.refl [] w).alloc o1).alloc o2).alloc o3)
  rw [ho1, ho2, ho3] at HX HC
  clear ho1 ho2 ho3 ha hn
  go_enter Try.func11, Try.ntmps11
  go_wp2
  go_ret2
  exact ⟨_, rfl, HX.out, HC.out⟩
theorem out_bad {a : Int} {n : Nat} (hm : 64 < n) (v : Option Addr) (cap : Nat) (w : World) :
    Calls Try.prog 12 #[.int .i64 a, .slice v n cap] w fun e w' => e = .returned (.tuple #[.pointer none, .int .i64 1]) ∧ Ch [] w w' := by
  have HC := Lib.hid ((Ch.refl [] w).alloc (.cells #[.int .i64 a] 3))
  have h1 : (64 : Int) < (n : Int) := by omega
  have h2' : decide ((n : Int) > 64) = true := decide_eq_true (by omega)
  go_enter Try.func12, Try.ntmps12
  go_wp2
  go_ret2
  exact ⟨rfl, HC.out⟩
theorem out_ok {a : Int} (ha : a ≤ 9223372036854775807) {n : Nat} (hn : n ≤ 64) {v : Option Addr} {cap : Nat} {l : List Int} (hl : l.length = n) {w : World} (hb : BytesAt w v l) (hnn : v = none → cap = 0) :
    Calls Try.prog 12 #[.int .i64 a, .slice v n cap] w fun e w' => ∃ c, e = .returned (.tuple #[.pointer (some ⟨c, 0, none⟩), .int .i64 0]) ∧ CC w' w.heap.size c c (CZ.outn a l) ∧ Ch [] w w' := by
  have hmf := mk_func
  have h1 : ¬ 64 < n := by omega
  have h1' : ¬ (64 : Int) < (n : Int) := by omega
  have h2' : decide ((n : Int) > 64) = false := decide_eq_false (by omega)
  obtain ⟨o1, ho1⟩ : ∃ o, o = Obj.cells #[.int .i64 a] 3 := ⟨_, rfl⟩
  have hc1 := (Ch.refl [] w).alloc o1
  have HB := Lib.hid (hb.ch hc1 (by simp))
  have HC := Lib.hid hc1
  have HL := Lib.hid hl
  have HA := Lib.hid ha
  have HN := Lib.hid hnn
  have a1 : (w.alloc o1).cell? ⟨w.heap.size, 0, none⟩ = some (.int .i64 a) := by rw [ho1, at_new]; rfl
  have H1 := Lib.hid a1
  have HS := Lib.hid (show (w.alloc o1).heap.size = w.heap.size + 1 by simp)
  rw [ho1] at HB HC H1 HS
  clear ho1 ha hl hb hnn hc1 a1
  go_enter Try.func12, Try.ntmps12
  go_wp2_with (first | (at_builtin; go_must (refine wpList_bytes rfl _ _ rfl rfl v n cap l rfl HL.out (by omega) HB.out HN.out ?_)))
  intro v' cp w2 hb2 hy2 hn2 hc2
  obtain ⟨o2, ho2⟩ : ∃ o, o = Obj.cells #[.slice v' n cp] 23 := ⟨_, rfl⟩
  obtain ⟨o3, ho3⟩ : ∃ o, o = Obj.cells #[.int .i64 a, .int .i64 (n : Int), .slice v' n cp, .func (.func 34) #[] #[.pointer (some ⟨w.heap.size, 0, none⟩), .pointer (some ⟨w2.heap.size, 0, none⟩)], .int .i64 0, .int .i64 0] 81 := ⟨_, rfl⟩
  have HX := Lib.hid (show CC ((w2.alloc o2).alloc o3) w.heap.size (w2.heap.size + 1) (w2.heap.size + 1) (CZ.outn a l) from by
    have hz := hc2.size
    have hz1 := HS.out
    have s2 : (w2.alloc o2).heap.size = w2.heap.size + 1 := by simp
    have b1 : w2.cell? ⟨w.heap.size, 0, none⟩ = some (.int .i64 a) := (hc2.cell (p := ⟨w.heap.size, 0, none⟩) (cell_lt H1.out) (by simp)).trans H1.out
    have a2 : ∀ i, (w2.alloc o2).cell? ⟨w2.heap.size, i, none⟩ = (#[.slice v' n cp] : Array Value)[i]? := fun i => by rw [ho2, at_new]
    have a3 : ∀ i, ((w2.alloc o2).alloc o3).cell? ⟨w2.heap.size + 1, i, none⟩ = (#[.int .i64 a, .int .i64 (n : Int), .slice v' n cp, .func (.func 34) #[] #[.pointer (some ⟨w.heap.size, 0, none⟩), .pointer (some ⟨w2.heap.size, 0, none⟩)], .int .i64 0, .int .i64 0] : Array Value)[i]? := fun i => by rw [← s2, ho3, at_new]
    have hF : Far ((w2.alloc o2).alloc o3) w.heap.size (w2.heap.size + 1) (w2.heap.size + 1) v' cp l := ⟨hb2.ch (((Ch.refl [] w2).alloc o2).alloc o3) (by simp), fun y e => by have := hy2 y e; simp; omega, hn2⟩
    have hl := HL.out
    refine ⟨by omega, by simp, a3 0, by simpa [CZ.outn, hl] using a3 1, ⟨v', cp, by simpa [CZ.outn, hl] using a3 2, hF⟩, ⟨w.heap.size, w2.heap.size, a3 3, fun _ => ⟨by omega, by omega, by omega, by omega, by omega, by omega, old_cell _ (old_cell _ b1), (fun e => by cases e), fun _ => ⟨v', cp, by simpa [CZ.outn, hl] using old_cell o3 (a2 0), hF⟩⟩⟩, a3 4, a3 5, fun k => ?_, HA.out, by simp [CZ.outn, hl]; omega, by simp [CZ.outn, hl]; omega, fun _ => rfl⟩
    rw [← s2, ho3]
    exact World.frozen?_alloc_new _ _ _ _)
  have HC2 := Lib.hid (((HC.out.trans hc2).alloc o2).alloc o3)
  rw [ho2, ho3] at HX HC2
  have b1 : (w2.alloc o2).cell? ⟨w.heap.size, 0, none⟩ = some (.int .i64 a) := old_cell _ ((hc2.cell (p := ⟨w.heap.size, 0, none⟩) (cell_lt H1.out) (by simp)).trans H1.out)
  rw [ho2] at b1
  clear ho2 ho3 hb2 hy2 hn2 hc2 HS H1 HB HC
  go_wp2_with fail
  go_ret2
  exact ⟨_, rfl, HX.out, HC2.out⟩
end Go.Proofs.Ytcdolkbljheniaa

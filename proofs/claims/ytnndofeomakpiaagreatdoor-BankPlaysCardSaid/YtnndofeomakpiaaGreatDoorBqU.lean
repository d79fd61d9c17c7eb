/-
  BankPlays: what opens its calls and the CPUs that it asks for; a call that came in.
-/
import Derived.Test.YtnndofeomakpiaaGreatDoorBqE
import Derived.Deep.Strs
namespace Go.Proofs.YtnndofeomakpiaaGreatDoor
open Go.RowKit Go.Maps Go.ChangeShapes Go.WideShapes Go.ChangeAt

theorem RB.base {w : World} {D D' n : Nat} {m : Value} {f : Nat → Wh} {P : Nat → Prop} (h : RB w D m n f P) (hD : D' ≤ D) : RB w D' m n f P := by
  obtain ⟨vs, h1, h2⟩ := h.row
  exact ⟨⟨vs, own_mono h1 hD, fun i hi => ⟨(h2 i hi).1.mono hD, (h2 i hi).2⟩⟩, h.own⟩
theorem BP.newAct {w0 w : World} {K n A na : Nat} {f g : Nat → Wh} {m : Value} {c : Nat → Value} (h : BP w0 w K n f m g A na c) (x y z : Value) (t : TypeId) : BP w0 (w.alloc (.cells #[x, y, z] t)) K n f m g w.heap.size 3 (fun o => if o = 0 then x else if o = 1 then y else z) := by
  have hq := h.quiet ((Ch.refl [] w).alloc (.cells #[x, y, z] t))
  refine ⟨hq.bl, hq.rb, fun o ho => ?_, .inr (fun e => by have := (h.bl.su e).2; omega)⟩
  rw [World.cell?_alloc_at _ _ _ _ rfl]
  rcases (show o = 0 ∨ o = 1 ∨ o = 2 by omega) with rfl | rfl | rfl <;> simp
theorem four_of {cs : List Value} (h : cs.length = 4) : ∃ a b c d, cs = [a, b, c, d] := by
  match cs, h with
  | [a, b, c, d], _ => exact ⟨a, b, c, d, rfl⟩
/-- A call that came in: in four cells from o on. -/
def ActAt (W : World) (b o : Nat) : Prop := ∃ C K s x, W.cell? ⟨b, o, none⟩ = some (.int .i64 C) ∧ W.cell? ⟨b, o + 1, none⟩ = some (.int .i64 K) ∧ W.cell? ⟨b, o + 2, none⟩ = some (.int .i64 s) ∧ W.cell? ⟨b, o + 3, none⟩ = some (.int .u64 x) ∧ wf64 s ∧ Wd x
def ActsAt (W : World) (a : Option Addr) (len : Nat) : Prop := len = 0 ∨ ∃ b off, a = some ⟨b, off, none⟩ ∧ ∀ i, i < len → ActAt W b (off + i * 4)

theorem acts_opened {H : Type} {enc : TypeId × Value → H} {W : World} {a : Option Addr} {len cap : Nat} {d : DataW H} {p : List MemPlace} (h : DataW.Trod enc Tryz.prog W 0 (fun _ => true) true 23 (.slice a len cap) d p) :
    len ≤ 9223372036854775807 ∧ ActsAt W a len := by
  obtain ⟨fuel, hf⟩ := h
  rcases Go.Deep.open_slice Tryz.underlying23 hf with ⟨hcs, _⟩ | ⟨x, l, c, m, n, D, Q, hcs, _, hl, hm, hmm, _, hi⟩
  · simp [Value.cells] at hcs
    obtain ⟨rfl, rfl, rfl⟩ := hcs
    exact ⟨by decide, .inl rfl⟩
  · simp [Value.cells] at hcs
    obtain ⟨rfl, rfl, rfl⟩ := hcs
    simp at hmm
    unfold maxLen at hm
    refine ⟨by omega, ?_⟩
    by_cases h0 : len = 0
    · exact .inl h0
    · have e1 : Tryz.prog.cellsOf 3 = 1 := by kernel_rfl
      have e2 : Tryz.prog.cellsOf 22 = 1 := by kernel_rfl
      have e3 : Tryz.prog.cellsOf 33 = 3 := by kernel_rfl
      have e4 : Tryz.prog.cellsOf 35 = 4 := by kernel_rfl
      have key : ∀ i, i < len → ∃ C K s y, W.cell? (x.add (i * 4)) = some (.int .i64 C) ∧ W.cell? ((x.add (i * 4)).add 1) = some (.int .i64 K) ∧ W.cell? ((x.add (i * 4)).add 2) = some (.int .i64 s) ∧ W.cell? ((x.add (i * 4)).add 3) = some (.int .u64 y) ∧ wf64 s ∧ Wd y := by
        intro i hlt
        obtain ⟨cs, hc, ht⟩ := hi i (by omega)
        rw [e4] at hc
        obtain ⟨_, hcl, hat⟩ := World.cells?_some hc
        obtain ⟨c0, c1, c2, c3, rfl⟩ := four_of hcl
        obtain ⟨y0, y1, n0, -, -, h0, h1⟩ := trod_struct2 Tryz.underlying35 ht
        simp only [e1, e3, List.drop_zero, List.drop_succ_cons, List.take_succ_cons, List.take_zero] at h0 h1
        obtain ⟨z0, z1, z2, n1, -, -, g0, g1, g2⟩ := Go.Deep.trod_struct3 Tryz.underlying33 h1
        simp only [e1, e2, List.drop_zero, List.drop_succ_cons, List.take_succ_cons, List.take_zero] at g0 g1 g2
        obtain ⟨C, k0, _, _⟩ := DataW.trod_int Tryz.underlying3 h0
        obtain ⟨K, k1, _, _⟩ := DataW.trod_int Tryz.underlying3 g0
        obtain ⟨s, k2, _, f2⟩ := DataW.trod_int Tryz.underlying3 g1
        obtain ⟨y, k3, _, f3⟩ := DataW.trod_int Tryz.underlying22 g2
        cases k0
        cases k1
        cases k2
        cases k3
        have a0 := hat 0 (by decide)
        rw [show (x.add (i * 4)).add 0 = x.add (i * 4) from rfl] at a0
        exact ⟨C, K, s, y, a0, hat 1 (by decide), hat 2 (by decide), hat 3 (by decide), f2, wd_of f3⟩
      obtain ⟨b, off, spot⟩ := x
      obtain ⟨C, K, s, y, hk, _⟩ := key 0 (by omega)
      have hspot : spot = none := by simpa [Addr.add] using World.cell?_spot hk
      subst hspot
      refine .inr ⟨b, off, rfl, fun i hlt => ?_⟩
      obtain ⟨C, K, s, y, h1, h2, h3, h4, h5⟩ := key i hlt
      rw [addr_add] at h1
      rw [addr_add, addr_add] at h2 h3 h4
      exact ⟨C, K, s, y, h1, h2, h3, h4, h5⟩
theorem ints_opened {H : Type} {enc : TypeId × Value → H} {W : World} {a : Option Addr} {len cap : Nat} {d : DataW H} {p : List MemPlace} (h : DataW.Trod enc Tryz.prog W 0 (fun _ => true) true 24 (.slice a len cap) d p) :
    ∃ l : List Int, len = l.length ∧ len ≤ cap ∧ cap ≤ 9223372036854775807 ∧ Mk.IntsAt W a l := by
  obtain ⟨fuel, hf⟩ := h
  rcases open_ints Tryz.underlying24 Tryz.underlying3 (by kernel_rfl) hf with ⟨hcs, _⟩ | ⟨x, l, c, zs, hcs, _, hl, hm, hz, _, hcell, _⟩
  · simp [Value.cells] at hcs
    obtain ⟨rfl, rfl, rfl⟩ := hcs
    exact ⟨[], rfl, Nat.le_refl _, by decide, .inl rfl⟩
  · simp [Value.cells] at hcs
    obtain ⟨rfl, rfl, rfl⟩ := hcs
    have hz : zs.length = cap := by simpa using hz
    unfold maxLen at hm
    refine ⟨zs.take len, by rw [List.length_take]; omega, hl, hm, ?_⟩
    by_cases h0 : len = 0
    · subst h0; exact .inl (by simp)
    · obtain ⟨b, off, spot⟩ := x
      have hc := hcell 0 (by omega)
      have hspot : spot = none := by simpa [Addr.add] using World.cell?_spot hc
      subst hspot
      refine .inr ⟨b, off, rfl, fun i hi => ?_⟩
      rw [List.length_take] at hi
      have hi2 : i < len := by omega
      have hci := hcell i (by omega)
      have e : (⟨b, off, none⟩ : Addr).add i = ⟨b, off + i, none⟩ := by unfold Addr.add; split <;> simp_all
      rw [e] at hci
      rw [hci]
      simp [hi2]
theorem ints_take {w : World} {a : Option Addr} {zs : List Int} (h : Mk.IntsAt w a zs) (k : Nat) : Mk.IntsAt w a (zs.take k) := by
  rcases h with rfl | ⟨b, off, rfl, hc⟩
  · exact .inl (by simp)
  · refine .inr ⟨b, off, rfl, fun i hi => ?_⟩
    rw [List.length_take] at hi
    rw [hc i (by omega), List.getElem?_take_of_lt (by omega)]
end Go.Proofs.YtnndofeomakpiaaGreatDoor

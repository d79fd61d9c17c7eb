/-
  The program's Text: its picture, its closure, strconv.Itoa.
-/
import Derived.Test.YtgldkalagmjkfaaDoorIsI
import Derived.Test.YtgldkalagmjkfaaDoorShelf
namespace Go.Proofs.YtgldkalagmjkfaaDoor
open Go.RowKit Go.Lib

theorem ch_grow (w : World) (k : Nat) (os : Array Obj) : Ch [] w (Sort.grow (w.drewN k) os) := by
  refine ⟨rfl, rfl, rfl, ?_, fun b hb _ => ?_⟩
  · simp [Sort.grow, World.drewN]
  · simp only [Sort.grow, World.drewN]
    rw [Array.getElem?_append_left hb]

theorem itoa_any {n : Int} (h0 : -9223372036854775808 ≤ n) (h1 : n ≤ 9223372036854775807) {w : World} (hT : Tb w) : Calls Tryd.prog 31 #[.int .i64 n] w fun e w' => e = .returned (.string ⟨(itoa n).toArray⟩) ∧ Ch [] w w' :=
  (Any.strconv_Itoa Tryd.laysM171 n h0 h1 w hT.pow).mono fun e w' ⟨he, k, os, hw⟩ => ⟨he, by rw [hw]; exact ch_grow w k os⟩

/-- The text under way: the instruction in block B, what it uses in block U, the text in block T, the gap in block G. -/
structure TX (w : World) (B U T G : Nat) (x : I5) (u1 u2 u3 u4 : Bool) (tx gp : List UInt8) : Prop where
  five : Five w B x
  bo : Bo4 w U u1 u2 u3 u4
  t : w.cell? ⟨T, 0, none⟩ = some (.string ⟨tx.toArray⟩)
  tf : w.frozen? ⟨T, 0, none⟩ = false
  g : w.cell? ⟨G, 0, none⟩ = some (.string ⟨gp.toArray⟩)
  gf : w.frozen? ⟨G, 0, none⟩ = false
  tb : Tb w
  bt : B ∉ [T, G]
  ut : U ∉ [T, G]
  tg : T ≠ G
  nt : 0 ∉ [T, G]
  pt : ∀ p, Tryd.prog.globalNamed "internal/strconv.uint64pow10" = some p → p ∉ [T, G]
theorem Tb.chS {w w' : World} {S : List Nat} (h : Tb w) (hc : Ch S w w') (h1 : 0 ∉ S) (h2 : ∀ p, Tryd.prog.globalNamed "internal/strconv.uint64pow10" = some p → p ∉ S) : Tb w' := by
  refine ⟨fun j hj => (hc.cell (p := ⟨0, j, none⟩) (cell_lt (h.nam j hj)) h1).trans (h.nam j hj), ?_⟩
  have hp := h.pow
  unfold Lib.TabIs World.var? at *
  cases hg : Tryd.prog.globalNamed "internal/strconv.uint64pow10" with
  | none => simp [hg] at hp
  | some g =>
    simp only [hg, Option.bind_some] at hp ⊢
    have hlt : g < w.heap.size := by
      rcases Nat.lt_or_ge g w.heap.size with h' | h'
      · exact h'
      · rw [Array.getElem?_eq_none h'] at hp; simp at hp
    rw [hc.block g hlt (h2 g hg)]
    exact hp
theorem TX.quiet {w w' : World} {B U T G : Nat} {x : I5} {u1 u2 u3 u4 : Bool} {tx gp : List UInt8} (h : TX w B U T G x u1 u2 u3 u4 tx gp) (hc : Ch [] w w') : TX w' B U T G x u1 u2 u3 u4 tx gp :=
  ⟨h.five.ch hc (by simp), h.bo.ch hc (by simp), (hc.cell (p := ⟨T, 0, none⟩) (cell_lt h.t) (by simp)).trans h.t, (hc.frozen (p := ⟨T, 0, none⟩) (cell_lt h.t) (by simp)).trans h.tf, (hc.cell (p := ⟨G, 0, none⟩) (cell_lt h.g) (by simp)).trans h.g, (hc.frozen (p := ⟨G, 0, none⟩) (cell_lt h.g) (by simp)).trans h.gf, h.tb.ch hc, h.bt, h.ut, h.tg, h.nt, h.pt⟩

theorem TX.skip {w : World} {B U T G : Nat} {x : I5} {u1 u2 u3 u4 : Bool} {tx gp : List UInt8} (h : TX w B U T G x u1 u2 u3 u4 tx gp) (p : List UInt8) :
    Calls Tryd.prog 30 #[.bool false, .string ⟨p.toArray⟩, .pointer (some ⟨T, 0, none⟩), .pointer (some ⟨G, 0, none⟩)] w fun e w' => e = .returned (.tuple #[]) ∧ TX w' B U T G x u1 u2 u3 u4 tx gp ∧ Ch [T, G] w w' := by
  have H := Lib.hid h
  clear h
  go_enter Tryd.func30, Tryd.ntmps30
  go_wp2
  exact ⟨rfl, .tuple #[], by simp [results, Tryd.f30, go_sem], rfl, H.out, Ch.refl _ _⟩
theorem TX.put {w : World} {B U T G : Nat} {x : I5} {u1 u2 u3 u4 : Bool} {tx gp : List UInt8} (h : TX w B U T G x u1 u2 u3 u4 tx gp) (p : List UInt8) (h1 : tx.length ≤ 200) (h2 : gp.length ≤ 200) (h3 : p.length ≤ 200) :
    Calls Tryd.prog 30 #[.bool true, .string ⟨p.toArray⟩, .pointer (some ⟨T, 0, none⟩), .pointer (some ⟨G, 0, none⟩)] w fun e w' => e = .returned (.tuple #[]) ∧ TX w' B U T G x u1 u2 u3 u4 (tx ++ (gp ++ p)) [44, 32] ∧ Ch [T, G] w w' := by
  have H := Lib.hid h
  have hA1 := add_str gp p (by omega) (by omega)
  obtain ⟨p1, hp1⟩ : ∃ q, gp ++ p = q := ⟨_, rfl⟩
  rw [hp1] at hA1 ⊢
  have hl : p1.length ≤ 400 := by rw [← hp1]; simp; omega
  have hA2 := add_str tx p1 (by omega) (by omega)
  obtain ⟨p2, hp2⟩ : ∃ q, tx ++ p1 = q := ⟨_, rfl⟩
  rw [hp2] at hA2 ⊢
  have c1 := h.t
  have c2 := h.g
  have f1 := h.tf
  have f2 := h.gf
  have htg := h.tg
  clear h hp1 hp2 hl h1 h2 h3
  go_enter Tryd.func30, Tryd.ntmps30
  go_wp2
  have hc : Ch [T, G] w ((w.setCell ⟨T, 0, none⟩ (.string ⟨p2.toArray⟩)).setCell ⟨G, 0, none⟩ (.string ⟨#[44, 32]⟩)) := ((Ch.refl _ _).setCell (by simp) _).setCell (by simp) _
  have h := H.out
  refine ⟨rfl, .tuple #[], by simp [results, Tryd.f30, go_sem], rfl, ⟨h.five.ch hc h.bt, h.bo.ch hc h.ut, ?_, ?_, ?_, ?_, h.tb.chS hc h.nt h.pt, h.bt, h.ut, h.tg, h.nt, h.pt⟩, hc⟩
  · exact setCell_other (setCell_same h.t) (addr_ne_block (fun e => h.tg e.symm))
  · simpa using h.tf
  · exact setCell_same (setCell_other h.g (addr_ne_block h.tg))
  · simpa using h.gf
/-- Both ways. -/
theorem TX.step {w : World} {B U T G : Nat} {x : I5} {u1 u2 u3 u4 : Bool} {tx gp : List UInt8} (h : TX w B U T G x u1 u2 u3 u4 tx gp) (b : Bool) (p : List UInt8) (h1 : tx.length ≤ 200) (h2 : gp.length ≤ 200) (h3 : p.length ≤ 200) :
    Calls Tryd.prog 30 #[.bool b, .string ⟨p.toArray⟩, .pointer (some ⟨T, 0, none⟩), .pointer (some ⟨G, 0, none⟩)] w fun e w' => e = .returned (.tuple #[]) ∧ TX w' B U T G x u1 u2 u3 u4 (if b then tx ++ (gp ++ p) else tx) (if b then [44, 32] else gp) ∧ Ch [T, G] w w' := by
  cases b
  · exact h.skip p
  · exact h.put p h1 h2 h3
end Go.Proofs.YtgldkalagmjkfaaDoor

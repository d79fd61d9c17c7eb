/-
  Counts by keys of int: holdOne of a key that has no count.
-/
import Derived.Test.YtbjlkmmijdhgoaaCIC
namespace Go.Proofs.Ytbjlkmmijdhgoaa.cI
open Go.RowKit Go.Maps

attribute [local go_sem] Oper.semAt_some

theorem RF.put {w w' : World} {R M top : Nat} {L : List Ent} (h : RF w R M top L) (hl : L.length < 64) (e : Ent) (hk : wfK e.k) (hno : ∀ x ∈ L, x.k ≠ e.k) (hx : Cnt w' e.b e.n top e.s) (hn : 1 ≤ e.n) (hb : w.heap.size ≤ e.b) (hc : Ch [M] w w')
    {D : DataW Value} (ho1 : w.ownsMap Try.prog 83 rd M L.length D) (hv : Vw D L) (ho : w'.ownsMap Try.prog 83 rd M (L.length + 1) (D.put (kl e.k) (.held (rv (some ⟨e.b, 0, none⟩) e.k)))) : RF w' R M top (e :: L) := by
  have hM : R ≠ M := by
    intro e1
    subst e1
    obtain ⟨es, clock, hb, _⟩ := ho1
    have := h.c0
    simp [World.cell?, hb] at this
  have hlt := ho1.lt
  have hR := cell_lt h.c0
  refine ⟨(hc.cell (p := ⟨R, 0, none⟩) (cell_lt h.c0) (by simpa using hM)).trans h.c0, (hc.cell (p := ⟨R, 1, none⟩) (cell_lt h.c1) (by simpa using hM)).trans h.c1, ⟨_, ho, hv.put e hk hno⟩, fun x hx2 => ?_, ?_, h.ht, by simp; omega⟩
  · rcases List.mem_cons.1 hx2 with rfl | hm
    · exact ⟨hx, hn, by have : R < w.heap.size := hR; omega, by omega⟩
    · have hm2 := h.cnt x hm
      exact ⟨hm2.1.ch hc (by simpa using hm2.2.2.2), hm2.2⟩
  · rw [List.map_cons, List.nodup_cons]
    refine ⟨fun hm => ?_, h.nd⟩
    obtain ⟨x, hx2, e1⟩ := List.mem_map.1 hm
    have := (h.cnt x hx2).1.lt
    omega

theorem new1 (top : Nat) (w : World) (S : Nat) (hS : w.heap.size = S) (h1 : 1 ≤ top) (h2 : top ≤ 65535) :
    Calls Try.prog 9 #[.int .i64 1, .int .i64 (top : Int)] w fun e w' => e = .returned (.tuple #[.pointer (some ⟨S, 0, none⟩), .int .i64 0]) ∧ Cnt w' S 1 top false ∧ Ch [] w w' ∧ w'.heap.size = S + 1 := new_ok 1 top w S hS h1 h2 h1

set_option maxRecDepth 100000 in
set_option maxHeartbeats 1000000 in
theorem hold_new {w : World} {R M top : Nat} {L : List Ent} (h : RF w R M top L) {k : K} (hk : wfK k) (hno : ∀ e ∈ L, e.k ≠ k) (hl : L.length < 64) :
    Calls Try.prog 31 #[.pointer (some ⟨R, 0, none⟩), kv k] w fun r w' => r = .returned (.int .i64 0) ∧ ∃ nb, w.heap.size ≤ nb ∧ RF w' R M top (⟨k, nb, 1, false⟩ :: L) ∧ Ch [M] w w' := by
  have HF := Lib.hid (find_not h hk hno)
  have H := Lib.hid h
  have HL := Lib.hid hl
  have HK := Lib.hid hk
  have HNo := Lib.hid hno
  clear h hno hl hk
  go_enter Try.func31, Try.ntmps31
  go_wp2_with fail
  with_reducible refine HF.out.mono ?_
  rintro r w1 ⟨rfl, hc1⟩
  have hc2 := hc1.alloc (.cells #[.pointer none, kv k0] 79)
  have H2 := Lib.hid (H.out.quiet hc2)
  have HC2 := Lib.hid hc2
  have r0 := H2.out.c0
  have r1 := H2.out.c1
  obtain ⟨D, ho, hv⟩ := H2.out.own
  have HO := Lib.hid ho
  have HV := Lib.hid hv
  have hs : ¬ (64 : Int) ≤ (size D : Int) := by rw [hv.sz]; have := HL.out; omega
  have hd : decide ((64 : Int) ≤ (size D : Int)) = false := by simpa using hs
  clear hc1 hc2 HF H hv hs
  go_wp2_with (first | (at_len; refine wpList_len_own _ rfl _ 74 rfl 83 79 Try.underlying74 _ M L.length D rfl ho ?_) | fail)
  generalize w1.alloc (.cells #[.pointer none, kv k0] 79) = w2 at *
  clear ho
  obtain ⟨S, hS⟩ : ∃ S, w2.heap.size = S := ⟨_, rfl⟩
  with_reducible refine (new1 top w2 S hS H2.out.ht.1 H2.out.ht.2).mono ?_
  rintro r w3 ⟨rfl, hx3, hc3, hz3⟩
  have HX3 := Lib.hid hx3
  have HC3 := Lib.hid hc3
  have HZ3 := Lib.hid hz3
  have HS := Lib.hid hS
  have hcR : ∀ W : World, Ch [] w3 W → W.cell? ⟨R, 1, none⟩ = some (.map (some M)) := fun W hh => ((hc3.trans hh).cell (p := ⟨R, 1, none⟩) (cell_lt r1) (by simp)).trans r1
  obtain ⟨B, hB⟩ : ∃ B : Obj, B = .cells #[kv k, .bool false] 83 := ⟨_, rfl⟩
  have g0 := hcR w3 (Ch.refl _ _)
  have g1 := hcR (w3.alloc B) ((Ch.refl _ _).alloc _)
  have hc4 : Ch [] w3 (w3.alloc B).drew := ((Ch.refl _ _).alloc _).drew
  have HC4 := Lib.hid hc4
  obtain ⟨w5, hrun, ho5, ht5⟩ := (own_ch HO.out (hc3.trans hc4) (by simp)).store law Try.underlying74 (by have := HL.out; unfold maxLen; omega) (key_of HK.out) (rd_mk (some ⟨S, 0, none⟩) k)
  have HO5 := Lib.hid ho5
  have HT5 := Lib.hid ht5
  rw [hB] at hrun g1
  have HB := Lib.hid hB
  clear hx3 hc3 hz3 hS hcR hc4 ho5 ht5 hB r0 r1 hd
  go_wp2_with fail
  go_region_with (go_at_call 33; refine (place_any k _).mono ?_; rintro e w' ⟨rfl, rfl⟩)
  all_goals clear g0 g1 hrun
  all_goals go_wp2
  all_goals go_ret
  all_goals exact ⟨rfl, S, by rw [← HS.out]; exact HC2.out.size,
    H2.out.put HL.out ⟨k, S, 1, false⟩ HK.out HNo.out (HX3.out.ch ((HC4.out.mono (by simp)).trans (ch_turned HT5.out)) (by have := HO.out.lt; have := HS.out; simp; omega)) (Nat.le_refl _) (by rw [HS.out]; exact Nat.le_refl _)
      ((HC3.out.mono (by simp)).trans ((HC4.out.mono (by simp)).trans (ch_turned HT5.out))) HO.out HV.out HO5.out,
    (HC2.out.mono (by simp)).trans ((HC3.out.mono (by simp)).trans ((HC4.out.mono (by simp)).trans (ch_turned HT5.out)))⟩
end Go.Proofs.Ytbjlkmmijdhgoaa.cI

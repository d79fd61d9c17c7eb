/-
  Contracts of a ring of things of two parts: Push of one, New.
-/
import Derived.Laws.MakeOwn
import Derived.OwnWalk
import Derived.Test.YtnnliimjemmekaaRgC
namespace Go.Proofs.Ytnnliimjemmekaa.rC
open Go.RowKit

attribute [local go_sem] Oper.semAt_some

theorem RC.grow {w : World} {R G room first held : Nat} {L : Nat → Th} (h : RC w R G room first held L) (hr : held < room) :
    RC (w.setCell ⟨R, 2, none⟩ (.int .i64 ((held : Int) + 1))) R G room first (held + 1) L := by
  have hn : ∀ a b : Nat, (⟨R, a, none⟩ : Addr) ≠ ⟨G, b, none⟩ := fun a b => addr_ne_block h.ne
  exact ⟨h.ne, h.r1, h.r2, h.fr, by omega, setCell_other h.c0 (addr_ne_off (by decide)), setCell_other h.c1 (addr_ne_off (by decide)), setCell_same h.c2, by simpa using h.f1, by simpa using h.f2,
    fun j hj => setCell_other (h.cs j hj) (hn _ _), fun j hj => setCell_other (h.ct j hj) (hn _ _), fun j hj => by simpa using h.fs j hj, fun j hj => by simpa using h.ft j hj⟩

theorem push_full {w : World} {R G room first : Nat} {L : Nat → Th} (h : RC w R G room first room L) (B : Nat) :
    Calls Try.prog 24 #[.pointer (some ⟨R, 0, none⟩), .slice (some ⟨B, 0, none⟩) 1 1] w fun e w' => e = .returned (.int .i64 0) ∧ w = w' := by
  have HL := Lib.hid (len_any h)
  have HRo := Lib.hid (room_any h)
  have r1 := h.r1
  have r2 := h.r2
  clear h
  go_enter Try.func24, Try.ntmps24
  go_wp2_with (first | (go_at_call 31; refine HL.out.mono ?_; rintro e w' ⟨rfl, rfl⟩) | (go_at_call 30; refine HRo.out.mono ?_; rintro e w' ⟨rfl, rfl⟩))
  refine wp_loop_rounds 1 ?_
  rw [rounds_succ]
  go_wp2
  go_ret
  exact ⟨rfl, rfl⟩

set_option maxHeartbeats 1000000 in
theorem push_one {w : World} {R G room first held : Nat} {L : Nat → Th} (h : RC w R G room first held L) (hlt : held < room) (B : Nat) (x : Th) (_ : B ≠ R) (_ : B ≠ G) (hb : Box2 w B (.int .i64 x.1) (.int .i64 x.2)) :
    Calls Try.prog 24 #[.pointer (some ⟨R, 0, none⟩), .slice (some ⟨B, 0, none⟩) 1 1] w fun e w' =>
      e = .returned (.int .i64 1) ∧ RC w' R G room first (held + 1) (upd L held x) ∧ Ch [R, G] w w' := by
  have HL := Lib.hid (len_any h)
  have HRo := Lib.hid (room_any h)
  have r2 := h.r2
  have b0 := hb.c0
  have b1 := hb.c1
  have c2 := h.c2
  have HR := Lib.hid h
  clear h hb
  have hsub : (1 : Int) ≤ (room : Int) - (held : Int) := by omega
  go_enter Try.func24, Try.ntmps24
  go_wp2_with (first | (go_at_call 31; refine HL.out.mono ?_; rintro e w' ⟨rfl, rfl⟩) | (go_at_call 30; refine HRo.out.mono ?_; rintro e w' ⟨rfl, rfl⟩))
  refine wp_loop_rounds 2 ?_
  rw [rounds_succ]
  go_wp2
  have HR1 := Lib.hid (HR.out.ch ((Ch.refl [] w).alloc (.cells #[.int .i64 x.1, .int .i64 x.2] 51)) (by simp) (by simp))
  have HX1 := Lib.hid (Box2.new w (.int .i64 x.1) (.int .i64 x.2) 51)
  have HC1 := Lib.hid ((Ch.refl [R, G] w).alloc (.cells #[.int .i64 x.1, .int .i64 x.2] 51))
  clear b0 b1 c2 HL HRo
  generalize w.alloc (.cells #[.int .i64 x.1, .int .i64 x.2] 51) = w1 at *
  have k0 := HX1.out.c0
  have k1 := HX1.out.c1
  have g0 := HR1.out.cs held (by omega)
  have g1 := HR1.out.ct held (by omega)
  have q0 := HR1.out.fs held (by omega)
  have q1 := HR1.out.ft held (by omega)
  have c2 := HR1.out.c2
  have HP : ∀ W : World, RC W R G room first held L → Calls Try.prog 32 #[.pointer (some ⟨R, 0, none⟩), .int .i64 (held : Int)] W fun e w' => e = .returned (.pointer (some ⟨G, at' room first held * 2, none⟩)) ∧ ∃ n, w' = W.drewN n := fun W hW => place_any hW held hlt
  have HP := Lib.hid HP
  go_region_with (go_at_call 32; refine (HP.out w1.drew (HR1.out.drewN 1)).mono ?_; rintro e w' ⟨rfl, nq, rfl⟩)
  all_goals
    have H4 := (HR1.out.drewN (1 + nq)).set held hlt x
    have hC4 := ((HC1.out.drewN (1 + nq)).setCell (p := ⟨G, at' room first held * 2, none⟩) (by simp) (.int .i64 x.1)).setCell (p := ⟨G, at' room first held * 2 + 1, none⟩) (by simp) (.int .i64 x.2)
    generalize ((w1.drewN (1 + nq)).setCell ⟨G, at' room first held * 2, none⟩ (.int .i64 x.1)).setCell ⟨G, at' room first held * 2 + 1, none⟩ (.int .i64 x.2) = w4 at *
    have HG := Lib.hid (H4.grow hlt)
    have HC4 := Lib.hid hC4
    have d2 := H4.c2
    have e2 := H4.f2
    clear H4 hC4 k0 k1 g0 g1 q0 q1 c2 HR1 HX1 HC1 HR
    go_wp2
    rw [rounds_succ]
    go_wp2
    go_ret
    exact ⟨rfl, HG.out, HC4.out.setCell (p := ⟨R, 2, none⟩) (by simp) _⟩

theorem infoE : (Try.prog.info? 51).map (fun i => (i.zero, i.size, i.bytes)) = some (some (.agg #[.int .i64 0, .int .i64 0]), 2, 16) := by kernel_rfl

def zT : Value := .agg #[.int .i64 0, .int .i64 0]
theorem made_at (n j : Nat) (h : j < n) : (madeCells zT.cells (n * 2)).toList[j * 2]? = some (.int .i64 0) ∧ (madeCells zT.cells (n * 2)).toList[j * 2 + 1]? = some (.int .i64 0) := by
  have h1 : j * 2 < n * 2 := by omega
  have h2 : j * 2 + 1 < n * 2 := by omega
  have h3 : j * 2 % 2 = 0 := by omega
  have h4 : (j * 2 + 1) % 2 = 1 := by omega
  constructor
  · simp [madeCells, Value.cells, zT, h1, h3]
  · simp [madeCells, Value.cells, zT, h2, h4]

set_option maxHeartbeats 400000 in
theorem new_any (room : Nat) (w : World) (h1 : 1 ≤ room) (h2 : room ≤ 256) :
    Calls Try.prog 21 #[.int .i64 (room : Int)] w fun e w' => ∃ R, e = .returned (.tuple #[.pointer (some ⟨R, 0, none⟩), .int .i64 0]) ∧
      RC w' R w.heap.size room 0 0 (fun _ => (0, 0)) ∧ Below w.heap.size w w' ∧ w.heap.size < R ∧ R < w'.heap.size := by
  obtain ⟨i0, hi, hz0, hz1, hz2⟩ := info_parts infoE
  have hd1 : decide ((room : Int) < 1) = false := by simp; omega
  have hd2 : decide ((256 : Int) < (room : Int)) = false := by simp; omega
  have hp0 : (0 : Int) ≤ (room : Int) := by omega
  go_enter Try.func21, Try.ntmps21
  go_wp2_with (at_make; go_must (refine wpList_make_full _ rfl _ _ 46 rfl w.heap.size 51 i0 zT 2 Try.underlying46 hi hz0 hz1 _ _ _ _ room rfl rfl rfl rfl (by rw [hz2]; omega) (by unfold maxLen; omega) (Nat.le_refl _) ?_); intro w1 hown hgrow)
  go_ret2
  have hB : Below w.heap.size w w1 := (Below.refl _ _).grown hgrow (Nat.le_refl _) (fun k e => by cases e)
  have hlt : w.heap.size < w1.heap.size := (World.ownsRow.lt hown w.heap.size rfl).2
  have hn : ∀ a b : Nat, (⟨w1.heap.size, a, none⟩ : Addr) ≠ ⟨w.heap.size, b, none⟩ := fun a b => addr_ne_block (by omega)
  have hat : ∀ j, j < room → at' room 0 j = j := fun j hj => by unfold at'; rw [Nat.zero_add]; exact Nat.mod_eq_of_lt hj
  refine ⟨w1.heap.size, rfl, ⟨by omega, h1, h2, h1, Nat.zero_le _, ?_, ?_, ?_, ?_, ?_, fun j hj => ?_, fun j hj => ?_, fun j hj => ?_, fun j hj => ?_⟩, hB.alloc hB.size _, hlt, by simp⟩
  · rw [World.cell?_alloc_at _ _ _ _ rfl]; rfl
  · rw [World.cell?_alloc_at _ _ _ _ rfl]; rfl
  · rw [World.cell?_alloc_at _ _ _ _ rfl]; rfl
  · exact World.frozen?_alloc_new w1 _ _ _
  · exact World.frozen?_alloc_new w1 _ _ _
  · rw [hat j hj, World.cell?_alloc_past _ _ _ (by exact hlt), World.ownsRow.cellAt hown (j * 2) (by omega)]
    exact (made_at room j hj).1
  · rw [hat j hj, World.cell?_alloc_past _ _ _ (by exact hlt), World.ownsRow.cellAt hown (j * 2 + 1) (by omega)]
    exact (made_at room j hj).2
  · rw [hat j hj]
    exact (World.frozen?_alloc_old w1 _ ⟨w.heap.size, j * 2, none⟩ (Nat.ne_of_lt hlt)).trans (World.ownsRow.frozenAt hown (j * 2))
  · rw [hat j hj]
    exact (World.frozen?_alloc_old w1 _ ⟨w.heap.size, j * 2 + 1, none⟩ (Nat.ne_of_lt hlt)).trans (World.ownsRow.frozenAt hown (j * 2 + 1))

/-- The ring in the blocks R and G holds these, in order. -/
def RL (w : World) (R G room : Nat) (xs : List Th) : Prop := ∃ first L, RC w R G room first xs.length L ∧ ∀ j, j < xs.length → L j = xs[j]?.getD (0, 0)
theorem RL.ch {w w' : World} {S : List Nat} {R G room : Nat} {xs : List Th} (h : RL w R G room xs) (hc : Ch S w w') (hR : R ∉ S) (hG : G ∉ S) : RL w' R G room xs := by
  obtain ⟨first, L, h, hL⟩ := h
  exact ⟨first, L, h.ch hc hR hG, hL⟩
theorem RL.le {w : World} {R G room : Nat} {xs : List Th} (h : RL w R G room xs) : xs.length ≤ room ∧ room ≤ 256 ∧ R ≠ G := by
  obtain ⟨first, L, h, hL⟩ := h
  exact ⟨h.hr, h.r2, h.ne⟩
theorem RL.lt {w : World} {R G room : Nat} {xs : List Th} (h : RL w R G room xs) : R < w.heap.size ∧ G < w.heap.size := by
  obtain ⟨first, L, h, hL⟩ := h
  exact ⟨cell_lt h.c0, cell_lt (h.cs 0 (by have := h.r1; omega))⟩
theorem new_l (room : Nat) (w : World) (h1 : 1 ≤ room) (h2 : room ≤ 256) :
    Calls Try.prog 21 #[.int .i64 (room : Int)] w fun e w' => ∃ R, e = .returned (.tuple #[.pointer (some ⟨R, 0, none⟩), .int .i64 0]) ∧
      RL w' R w.heap.size room [] ∧ Below w.heap.size w w' ∧ w.heap.size < R ∧ R < w'.heap.size :=
  (new_any room w h1 h2).mono fun e w' ⟨R, he, hr, hb, h3, h4⟩ => ⟨R, he, ⟨0, _, hr, fun j hj => by simp at hj⟩, hb, h3, h4⟩
theorem len_l {w : World} {R G room : Nat} {xs : List Th} (h : RL w R G room xs) :
    Calls Try.prog 31 #[.pointer (some ⟨R, 0, none⟩)] w fun e w' => e = .returned (.int .i64 (xs.length : Int)) ∧ w = w' := by
  obtain ⟨first, L, h, hL⟩ := h
  exact len_any h
theorem push_l1 {w : World} {R G room : Nat} {xs : List Th} (h : RL w R G room xs) (hlt : xs.length < room) (B : Nat) (x : Th) (hBR : B ≠ R) (hBG : B ≠ G) (hb : Box2 w B (.int .i64 x.1) (.int .i64 x.2)) :
    Calls Try.prog 24 #[.pointer (some ⟨R, 0, none⟩), .slice (some ⟨B, 0, none⟩) 1 1] w fun e w' =>
      e = .returned (.int .i64 1) ∧ RL w' R G room (xs ++ [x]) ∧ Ch [R, G] w w' := by
  obtain ⟨first, L, h, hL⟩ := h
  refine (push_one h hlt B x hBR hBG hb).mono ?_
  rintro e w' ⟨rfl, hr, hc⟩
  refine ⟨rfl, ⟨first, _, by simpa using hr, fun j hj => ?_⟩, hc⟩
  unfold upd
  simp at hj
  by_cases e : j = xs.length
  · subst e; simp
  · rw [if_neg e, hL j (by omega), List.getElem?_append_left (by omega)]
theorem push_l0 {w : World} {R G room : Nat} {xs : List Th} (h : RL w R G room xs) (hlt : xs.length = room) (B : Nat) :
    Calls Try.prog 24 #[.pointer (some ⟨R, 0, none⟩), .slice (some ⟨B, 0, none⟩) 1 1] w fun e w' => e = .returned (.int .i64 0) ∧ w = w' := by
  obtain ⟨first, L, h, hL⟩ := h
  rw [hlt] at h
  exact push_full h B
theorem pop_l {w : World} {R G room : Nat} {x : Th} {xs : List Th} (h : RL w R G room (x :: xs)) :
    Calls Try.prog 33 #[.pointer (some ⟨R, 0, none⟩)] w fun e w' =>
      e = .returned (.tuple #[.agg #[.int .i64 x.1, .int .i64 x.2], .bool true]) ∧ RL w' R G room xs ∧ Ch [R, G] w w' := by
  obtain ⟨first, L, h, hL⟩ := h
  have h0 : L 0 = x := hL 0 (by simp)
  have hr0 := h.hr
  refine (pop_some h).mono ?_
  rintro e w' ⟨rfl, hr, hch⟩
  refine ⟨by rw [h0], ⟨_, _, hr, fun j hj => ?_⟩, hch⟩
  simp at hr0
  unfold rot
  rw [if_pos (by omega)]
  unfold upd
  rw [if_neg (by omega), hL (j + 1) (by simp; omega)]
  simp
theorem pop_out {w : World} {R G room : Nat} (h : RL w R G room []) :
    Calls Try.prog 33 #[.pointer (some ⟨R, 0, none⟩)] w fun e w' => e = .returned (.tuple #[.agg #[.int .i64 0, .int .i64 0], .bool false]) ∧ Ch [] w w' := by
  obtain ⟨first, L, h, hL⟩ := h
  exact pop_none h
end Go.Proofs.Ytnnliimjemmekaa.rC

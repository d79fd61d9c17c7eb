/-
  Counts by keys of int: find, by what there is; holdOne.
-/
import Derived.Test.YtbjlkmmijdhgoaaCIB
import Derived.Test.YtbjlkmmijdhgoaaCoB
namespace Go.Proofs.Ytbjlkmmijdhgoaa.cI
open Go.RowKit Go.Maps

attribute [local go_sem] Oper.semAt_some

theorem find_in {w : World} {R M top : Nat} {A B : List Ent} {e : Ent} (h : RF w R M top (A ++ e :: B)) :
    Calls Try.prog 32 #[.pointer (some ⟨R, 0, none⟩), kv e.k] w fun r w' => r = .returned (.tuple #[rv (some ⟨e.b, 0, none⟩) e.k, .bool true]) ∧ Ch [] w w' := by
  obtain ⟨D, ho, hv⟩ := h.own
  have he := hv.mem e (by simp)
  refine find_run R M e.k (some ⟨e.b, 0, none⟩) e.k true w h.c1 (fun W hc => ?_)
  obtain ⟨v, ps, hrun, hv2⟩ := (own_ch ho hc (by simp)).look_ok law Try.underlying74 (zeroR W) (rd_mk none k0) (key_of he.1)
  rw [hv.has (e := e) (by simp), he.2] at *
  obtain ⟨c, rfl⟩ := rd_inv hv2
  rw [rd_mk] at hv2
  have e2 : rv c.1 c.2 = rv (some ⟨e.b, 0, none⟩) e.k := by have := hv2; simp at this ⊢; exact this.1
  rw [e2] at hrun
  exact hrun
theorem find_not {w : World} {R M top : Nat} {L : List Ent} (h : RF w R M top L) {k : K} (hk : wfK k) (hno : ∀ e ∈ L, e.k ≠ k) :
    Calls Try.prog 32 #[.pointer (some ⟨R, 0, none⟩), kv k] w fun r w' => r = .returned (.tuple #[rv none k0, .bool false]) ∧ Ch [] w w' := by
  obtain ⟨D, ho, hv⟩ := h.own
  refine find_run R M k none k0 false w h.c1 (fun W hc => ?_)
  obtain ⟨v, ps, hrun, hv2⟩ := (own_ch ho hc (by simp)).look_ok law Try.underlying74 (zeroR W) (rd_mk none k0) (key_of hk)
  have hn := hv.hasNot hk hno
  rw [hn] at hrun
  rw [atKey_of_not_has hn] at hv2
  obtain ⟨c, rfl⟩ := rd_inv hv2
  rw [rd_mk] at hv2
  have e2 : rv c.1 c.2 = rv none k0 := by have := hv2; simp at this ⊢; exact this.1
  rw [e2] at hrun
  exact hrun

theorem getN_pos {n top : Nat} {s : Bool} {m : Nat} {t : Bool} {E : Int} (h : getN n top s = (m, t, E)) (h1 : 1 ≤ n) : 1 ≤ m := by
  unfold getN at h
  split at h
  · cases h; exact h1
  · split at h
    · cases h; exact h1
    · cases h; omega
theorem RF.set {w w' : World} {R M top : Nat} {A B : List Ent} {e : Ent} {n : Nat} {s : Bool} (h : RF w R M top (A ++ e :: B)) (hc : Ch [e.b] w w') (hx : Cnt w' e.b n top s) (hn : 1 ≤ n) : RF w' R M top (A ++ ⟨e.k, e.b, n, s⟩ :: B) := by
  obtain ⟨D, ho, hv⟩ := h.own
  have he := h.cnt e (by simp)
  have hnd := h.nd
  rw [List.map_append, List.map_cons, List.nodup_append, List.nodup_cons] at hnd
  obtain ⟨n1, ⟨n2, n3⟩, n4⟩ := hnd
  refine ⟨(hc.cell (p := ⟨R, 0, none⟩) (cell_lt h.c0) (by simp; exact fun e1 => he.2.2.1 e1.symm)).trans h.c0, (hc.cell (p := ⟨R, 1, none⟩) (cell_lt h.c1) (by simp; exact fun e1 => he.2.2.1 e1.symm)).trans h.c1,
    ⟨D, by have := own_ch ho hc (by simp; exact fun e1 => he.2.2.2 e1.symm); simpa using this, hv.upd n s⟩, fun x hx2 => ?_, by simpa using h.nd, h.ht, by simpa using h.hl⟩
  rcases List.mem_append.1 hx2 with hm | hm
  · have hm2 := h.cnt x (by simp [hm])
    exact ⟨hm2.1.ch hc (by simp; exact fun e1 => n4 x.b (List.mem_map.2 ⟨x, hm, rfl⟩) e.b (by simp) e1), hm2.2⟩
  · rcases List.mem_cons.1 hm with rfl | hm
    · exact ⟨hx, hn, he.2.2⟩
    · have hm2 := h.cnt x (by simp [hm])
      exact ⟨hm2.1.ch hc (by simp; exact fun e1 => n2 (List.mem_map.2 ⟨x, hm, e1⟩)), hm2.2⟩

theorem hold_old {w : World} {R M top : Nat} {A B : List Ent} {e : Ent} (h : RF w R M top (A ++ e :: B)) {n : Nat} {s : Bool} {E : Int} (hG : getN e.n top e.s = (n, s, E)) :
    Calls Try.prog 31 #[.pointer (some ⟨R, 0, none⟩), kv e.k] w fun r w' => r = .returned (.int .i64 E) ∧ RF w' R M top (A ++ ⟨e.k, e.b, n, s⟩ :: B) ∧ Ch [e.b] w w' := by
  have HF := Lib.hid (find_in h)
  have H := Lib.hid h
  have HG := Lib.hid hG
  have HP := Lib.hid (getN_pos hG (h.cnt e (by simp)).2.1)
  clear h hG
  go_enter Try.func31, Try.ntmps31
  go_wp2_with fail
  with_reducible refine HF.out.mono ?_
  rintro r w1 ⟨rfl, hc1⟩
  have hc2 := hc1.alloc (.cells #[.pointer (some ⟨e.b, 0, none⟩), kv e.k] 79)
  have H2 := Lib.hid (H.out.quiet hc2)
  have HC2 := Lib.hid hc2
  clear hc1 hc2 HF H
  go_wp2_with fail
  generalize w1.alloc (.cells #[.pointer (some ⟨e.b, 0, none⟩), kv e.k] 79) = w2 at *
  with_reducible refine (get_at (H2.out.cnt e (by simp)).1 HG.out).mono ?_
  rintro r w3 ⟨rfl, hx3, hc3, -⟩
  have HX3 := Lib.hid hx3
  have HC3 := Lib.hid hc3
  clear hx3 hc3
  go_wp2
  go_ret
  exact ⟨rfl, H2.out.set HC3.out HX3.out HP.out, (HC2.out.mono (by simp)).trans HC3.out⟩

theorem hold_full {w : World} {R M top : Nat} {L : List Ent} (h : RF w R M top L) {k : K} (hk : wfK k) (hno : ∀ e ∈ L, e.k ≠ k) (hl : L.length = 64) :
    Calls Try.prog 31 #[.pointer (some ⟨R, 0, none⟩), kv k] w fun r w' => r = .returned (.int .i64 3) ∧ Ch [] w w' := by
  have HF := Lib.hid (find_not h hk hno)
  have H := Lib.hid h
  have HL := Lib.hid hl
  clear h hno hl
  go_enter Try.func31, Try.ntmps31
  go_wp2_with fail
  with_reducible refine HF.out.mono ?_
  rintro r w1 ⟨rfl, hc1⟩
  have hc2 := hc1.alloc (.cells #[.pointer none, kv k0] 79)
  have H2 := Lib.hid (H.out.quiet hc2)
  have HC2 := Lib.hid hc2
  have r1 := H2.out.c1
  obtain ⟨D, ho, hv⟩ := H2.out.own
  have hs : (64 : Int) ≤ (size D : Int) := by rw [hv.sz, HL.out]; decide
  have hd : decide ((64 : Int) ≤ (size D : Int)) = true := by simpa using hs
  clear hc1 hc2 HF H hv hs
  go_wp2_with (first | (at_len; refine wpList_len_own _ rfl _ 74 rfl 83 79 Try.underlying74 _ M L.length D rfl ho ?_) | fail)
  go_ret
  exact ⟨rfl, HC2.out⟩
end Go.Proofs.Ytbjlkmmijdhgoaa.cI

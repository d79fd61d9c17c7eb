/-
  Rows of instructions of the call's own; the program's Parse.
-/
import Derived.Test.YtgldkalagmjkfaaDoorIsO
import Derived.Test.YtgldkalagmjkfaaDoorIsQ
namespace Go.Proofs.YtgldkalagmjkfaaDoor
open Go.RowKit

attribute [local go_sem] Oper.semAt_some

/-- Instructions of the call's own. -/
def IR (w : World) (lo T : Nat) (v : Value) (L : List I5) : Prop := w.ownsRow lo T 5 v L.length (L.flatMap fiv)
theorem fivs_len (L : List I5) : (L.flatMap fiv).length = L.length * 5 := by
  induction L with
  | nil => rfl
  | cons x l ih => simp [fiv] at ih ⊢; omega
theorem fivs_at (L : List I5) (k : Nat) (hk : k < L.length) : (L.flatMap fiv)[k * 5]? = some (.int .i64 L[k].op) ∧ (L.flatMap fiv)[k * 5 + 1]? = some (.int .i64 L[k].d) ∧ (L.flatMap fiv)[k * 5 + 2]? = some (.int .i64 L[k].s) ∧ (L.flatMap fiv)[k * 5 + 3]? = some (.int .i64 L[k].o) ∧ (L.flatMap fiv)[k * 5 + 4]? = some (.int .i64 L[k].i) := by
  induction L generalizing k with
  | nil => simp at hk
  | cons x l ih =>
    cases k with
    | zero => simp [fiv]
    | succ k =>
      have h := ih k (by simpa using hk)
      rw [List.flatMap_cons]
      have e : ∀ j, (fiv x ++ l.flatMap fiv)[(k + 1) * 5 + j]? = (l.flatMap fiv)[k * 5 + j]? := fun j => by
        rw [List.getElem?_append_right (by simp [fiv]; omega)]
        congr 1
        simp [fiv]; omega
      have e0 := e 0
      rw [Nat.add_zero, Nat.add_zero] at e0
      rw [e0, e 1, e 2, e 3, e 4]
      exact h
theorem IR.form {w : World} {lo T : Nat} {v : Value} {L : List I5} (h : IR w lo T v L) : ∃ a cap, v = .slice a L.length cap ∧ InsAt w a L ∧ ∀ y, a = some y → lo ≤ y.block ∧ y.block < w.heap.size := by
  unfold IR at h
  by_cases h0 : L = []
  · subst h0
    rcases h.2 with ⟨rfl, _⟩ | ⟨g, cp, cur, rfl, hb, hg, _⟩
    · exact ⟨none, 0, rfl, .inl rfl, by simp⟩
    · refine ⟨some ⟨g, 0, none⟩, cp, rfl, .inl rfl, fun y e => ?_⟩
      cases e
      exact ⟨hb, (Array.getElem?_eq_some_iff.1 hg).1⟩
  · have hl : 0 < L.length := List.length_pos_iff.2 h0
    obtain ⟨a, cap, rfl⟩ := own_form h
    obtain ⟨g, rfl, hb, hs, _, hc⟩ := own_cells h 0 (by omega)
    refine ⟨some ⟨g, 0, none⟩, cap, rfl, .inr ⟨g, 0, rfl, fun i hi => ?_⟩, fun y e => by cases e; exact ⟨hb, hs⟩⟩
    rw [Nat.zero_add]
    obtain ⟨k0, k1, k2, k3, k4⟩ := fivs_at L i hi
    exact ⟨(hc _ (by omega)).trans k0, (hc _ (by omega)).trans k1, (hc _ (by omega)).trans k2, (hc _ (by omega)).trans k3, (hc _ (by omega)).trans k4⟩
theorem IR.nil (w : World) (lo T : Nat) : IR w lo T (.slice none 0 0) [] := World.ownsRow_nil _ _ _ _
theorem IR.ch {w w' : World} {S : List Nat} {lo T : Nat} {v : Value} {L : List I5} (h : IR w lo T v L) (hc : Ch S w w') (hS : ∀ k ∈ S, k < lo) : IR w' lo T v L := own_ch h hc hS
theorem IR.snoc {w : World} {lo T : Nat} {v : Value} {L : List I5} {x : I5} (h : w.ownsRow lo T 5 v (L.length + 1) (L.flatMap fiv ++ fiv x)) : IR w lo T v (L ++ [x]) := by
  unfold IR
  simpa using h
theorem cells_five (w : World) (x : I5) (t : TypeId) : ∀ j u, (fiv x)[j]? = some u → (w.alloc (.cells #[.int .i64 x.op, .int .i64 x.d, .int .i64 x.s, .int .i64 x.o, .int .i64 x.i] t)).cell? ((⟨w.heap.size, 0, none⟩ : Addr).add j) = some u := by
  intro j u hj
  rw [addr_add, Nat.zero_add, World.cell?_alloc_at _ _ _ _ rfl]
  unfold fiv at hj
  match j, hj with
  | 0, hj => simpa using hj
  | 1, hj => simpa using hj
  | 2, hj => simpa using hj
  | 3, hj => simpa using hj
  | 4, hj => simpa using hj

/-- The instruction of the k-th eight bytes. -/
def decAt (l : List Int) (k : Nat) : I5 := dec (fun j => l.getD (8 * k + j) 0)
def decs (l : List Int) (k : Nat) : List I5 := (List.range k).map (decAt l)
theorem decs_len (l : List Int) (k : Nat) : (decs l k).length = k := by simp [decs]
theorem decs_succ (l : List Int) (k : Nat) : decs l (k + 1) = decs l k ++ [decAt l k] := by simp [decs, List.range_succ]
def byte (l : List Int) : Prop := ∀ x ∈ l, 0 ≤ x ∧ x < 256
theorem by8 {w : World} {b o : Nat} {l : List Int} (hl : byte l) {k : Nat} (hk : 8 * k + 8 ≤ l.length) (h : ∀ i (hi : i < l.length), w.cell? ⟨b, o + i, none⟩ = some (.int .u8 l[i])) : By8 w b (o + 8 * k) (fun j => l.getD (8 * k + j) 0) := by
  have e : ∀ j, j < 8 → ∃ hj : 8 * k + j < l.length, l.getD (8 * k + j) 0 = l[8 * k + j] := fun j hj => ⟨by omega, by rw [List.getD_eq_getElem?_getD, List.getElem?_eq_getElem (by omega)]; rfl⟩
  refine ⟨fun j hj => ?_, fun j hj => ?_, fun j hj => ?_⟩
  · obtain ⟨h1, h2⟩ := e j hj
    rw [h2, Nat.add_assoc]
    exact h _ h1
  · obtain ⟨h1, h2⟩ := e j hj
    rw [h2]; exact (hl _ (List.getElem_mem h1)).1
  · obtain ⟨h1, h2⟩ := e j hj
    rw [h2]; exact (hl _ (List.getElem_mem h1)).2
theorem dec_fit {y : Nat → Int} (h0 : ∀ j, j < 8 → 0 ≤ y j) (h1 : ∀ j, j < 8 → y j < 256) : Fit (dec y) := by
  have p0 := h0 0 (by decide); have p1 := h0 1 (by decide); have p2 := h0 2 (by decide); have p3 := h0 3 (by decide)
  have p4 := h0 4 (by decide); have p5 := h0 5 (by decide); have p6 := h0 6 (by decide); have p7 := h0 7 (by decide)
  have r0 := h1 0 (by decide); have r1 := h1 1 (by decide); have r2 := h1 2 (by decide); have r3 := h1 3 (by decide)
  have r4 := h1 4 (by decide); have r5 := h1 5 (by decide); have r6 := h1 6 (by decide); have r7 := h1 7 (by decide)
  unfold dec
  refine ⟨⟨?_, ?_⟩, ⟨?_, ?_⟩, ⟨?_, ?_⟩, ⟨?_, ?_⟩, ⟨?_, ?_⟩⟩ <;> simp only <;> first | omega | (unfold sgn; split <;> omega)

set_option maxHeartbeats 2000000 in
theorem parse_any {w : World} {a : Option Addr} {n cap m : Nat} {l : List Int} (hn : l.length = n) (hn2 : n ≤ 10000) (hcap : n ≤ cap) (hcap2 : cap ≤ 9223372036854775807) (hl : byte l) (hb : BytesAt w a l) (hm : 8 * m ≤ n) (hok : ∀ i, i < m → chk (decAt l i) = 0)
    (hend : n < 8 * m + 8 ∨ chk (decAt l m) ≠ 0) :
    Calls Tryd.prog 19 #[.slice a n cap] w fun e w' => Ch [] w w' ∧ ((8 * m + 8 ≤ n ∧ e = .returned (.tuple #[.slice none 0 0, .int .i64 (m : Int), .int .i64 (chk (decAt l m))])) ∨ (n < 8 * m + 8 ∧ n ≠ 8 * m ∧ e = .returned (.tuple #[.slice none 0 0, .int .i64 (m : Int), .int .i64 10])) ∨ (n = 8 * m ∧ ∃ v, e = .returned (.tuple #[v, .int .i64 0, .int .i64 0]) ∧ IR w' w.heap.size 34 v (decs l m))) := by
  obtain ⟨i0, hI, hz0, hz1, hz2⟩ : ∃ i : TypeInfo, Tryd.prog.info? 34 = some i ∧ i.zero = some (.agg #[.int .i64 0, .int .i64 0, .int .i64 0, .int .i64 0, .int .i64 0]) ∧ i.size = 5 ∧ i.bytes = 40 := by
    refine ⟨_, rfl, by kernel_rfl, by kernel_rfl, by kernel_rfl⟩
  have HN := Lib.hid hn
  have HB := Lib.hid hb
  have HOk := Lib.hid hok
  have HEn := Lib.hid hend
  have HL := Lib.hid hl
  have HM := Lib.hid hm
  clear hn hb hok hend hl hm
  go_enter Tryd.func19, Tryd.ntmps19
  go_wp2_with fail
  go_loopw [0, 5] (fun b v wr => ∃ (k : Nat) (a' : Option Addr) (q cq : Nat), k ≤ m ∧ q + 8 * k = n ∧ cq + 8 * k = cap ∧ b = .slice a' q cq ∧ BytesAt w a' (l.drop (8 * k)) ∧ Ch [] w wr ∧ IR wr w.heap.size 34 v (decs l k)) (fun b _ _ => match b with | .slice _ q _ => q | _ => 0)
  case atStart => exact ⟨0, a, n, cap, Nat.zero_le _, by omega, by omega, rfl, by simpa using HB.out, Ch.refl _ _, IR.nil _ _ _⟩
  case round =>
    obtain ⟨k, a', q, cq, hk, hq, hcq, rfl, hby, hch, hir⟩ := hrel
    have HC := Lib.hid hch
    have HR := Lib.hid hir
    have HQ := Lib.hid hq
    have HK := Lib.hid hk
    by_cases h8 : 8 ≤ q
    · have hne : l.drop (8 * k) ≠ [] := by
        intro e
        have := congrArg List.length e
        rw [List.length_drop, HN.out] at this
        simp at this; omega
      rcases hby with h0 | ⟨b', o', rfl, hcl⟩
      · exact absurd h0 hne
      · have hy := by8 (k := 0) (w := w) (b := b') (o := o') (l := l.drop (8 * k)) (fun x hx => HL.out x (List.mem_of_mem_drop hx)) (by rw [List.length_drop, HN.out]; omega) hcl
        have hfun : (fun j => (l.drop (8 * k)).getD (8 * 0 + j) 0) = fun j => l.getD (8 * k + j) 0 := by
          funext j; rw [List.getD_eq_getElem?_getD, List.getD_eq_getElem?_getD, List.getElem?_drop]; simp
        rw [hfun, Nat.mul_zero, Nat.add_zero] at hy
        have HY := Lib.hid hy
        have hyw : By8 wr b' o' (fun j => l.getD (8 * k + j) 0) := ⟨fun j hj => (HC.out.cell (cell_lt (hy.c j hj)) (by simp)).trans (hy.c j hj), hy.lo, hy.hi⟩
        have hrd := read_any (cap := 8) hyw
        have hfx := dec_fit hy.lo hy.hi
        have hda : decAt l k = dec (fun j => l.getD (8 * k + j) 0) := rfl
        rw [← hda] at hrd hfx
        have HRd := Lib.hid hrd
        have HS := Lib.hid (decs_succ l k)
        have HLast := Lib.hid (show chk (decAt l k) ≠ 0 → k = m from fun h => by
          rcases Nat.lt_or_ge k m with e | e
          · exact absurd (HOk.out k e) h
          · have := HK.out; omega)
        have HKm := Lib.hid (show chk (decAt l k) = 0 → k < m from fun h => by
          rcases Nat.lt_or_ge k m with e | e
          · exact e
          · have hkm : k = m := by have := HK.out; omega
            rcases HEn.out with h1 | h1
            · have := HQ.out; omega
            · rw [← hkm] at h1; exact absurd h h1)
        have HCk := Lib.hid (fun w => check_any hfx w)
        have HE1 := Lib.hid (show k = m → chk (decAt l k) = chk (decAt l m) from fun h => by rw [h])
        have HBy := Lib.hid (show BytesAt w (some ⟨b', o', none⟩) (l.drop (8 * k)) from .inr ⟨b', o', rfl, hcl⟩)
        clear hy hyw hfun hne hcl hch hir hk hrd hda
        obtain ⟨av, ac, rfl, -, -⟩ := HR.out.form
        rw [decs_len] at HR ⊢
        generalize decAt l k = x at *
        obtain ⟨op, d, s, o, i⟩ := x
        unfold iv at *
        simp only at *
        go_wp2_with fail
        with_reducible refine HRd.out.mono ?_
        rintro e w1 ⟨rfl, hc1⟩
        have HB5 := Lib.hid (Bx5.new w1 ⟨op, d, s, o, i⟩)
        have HC1 := Lib.hid ((HC.out.trans hc1).alloc (.cells #[.int .i64 op, .int .i64 d, .int .i64 s, .int .i64 o, .int .i64 i] 34))
        have HR1 := Lib.hid ((HR.out.ch hc1 (by simp)).ch ((Ch.refl [] w1).alloc (.cells #[.int .i64 op, .int .i64 d, .int .i64 s, .int .i64 o, .int .i64 i] 34)) (by simp))
        obtain ⟨a0, a1, a2, a3, a4⟩ := HB5.out.five
        simp only at a0 a1 a2 a3 a4
        clear hc1 hfx HR
        by_cases hz : chk ⟨op, d, s, o, i⟩ = 0
        · have hkm := HKm.out hz
          have HZ := Lib.hid hz
          rw [hz] at HCk
          clear hz
          go_wp2_with fail
          with_reducible refine (HCk.out _).mono ?_
          rintro e w2 ⟨rfl, hc2⟩
          have HB6 := Lib.hid (HB5.out.ch hc2 (by simp))
          have HC2 := Lib.hid (HC1.out.trans hc2)
          have HR2 := Lib.hid (HR1.out.ch hc2 (by simp))
          obtain ⟨b0, b1, b2, b3, b4⟩ := HB6.out.five
          simp only at b0 b1 b2 b3 b4
          clear hc2 a0 a1 a2 a3 a4
          by_cases hcc : cq = 8
          · subst hcc
            go_wp2_with (at_builtin; go_must (refine wpList_append_own _ rfl _ _ 39 rfl w.heap.size 34 i0 (.agg #[.int .i64 0, .int .i64 0, .int .i64 0, .int .i64 0, .int .i64 0]) 5 40 Tryd.underlying39 hI hz0 hz1 hz2 rfl (by decide) _ k ((decs l k).flatMap fiv) rfl (by have := HR2.out; unfold IR at this; rw [decs_len] at this; exact this.alloc _) ⟨w2.heap.size, 0, none⟩ 1 1 (fiv ⟨op, d, s, o, i⟩) rfl rfl (cells_five w2 ⟨op, d, s, o, i⟩ _) (by simp [fiv, Value.oneCell']) (by unfold maxLen; omega) (by omega) (by have := HC2.out.size; simp; omega) ?_); intro v3 w3 hown3 hgrow3 hnil3; refine Hid.out ?_)
            refine Lib.hid ?_
            have HC3 := Lib.hid (own_new (HC2.out.alloc _) hgrow3 (Nat.le_refl _) (by have := HR2.out; unfold IR at this; rw [decs_len] at this; exact this.alloc _))
            have HR3 := Lib.hid (show IR w3 w.heap.size 34 v3 (decs l (k + 1)) by rw [HS.out]; exact IR.snoc (by rw [decs_len]; exact hown3))
            obtain ⟨av3, ac3, rfl⟩ := own_form hown3
            clear hown3 hgrow3 hnil3
            go_wp2_with fail
            go_roundw
            case rel =>
              have hq8 : q = 8 := by have := HQ.out; omega
              subst hq8
              exact ⟨k + 1, some ⟨b', o', none⟩, 0, 0, hkm, by have := HQ.out; omega, by omega, rfl, .inl (List.drop_eq_nil_of_le (by rw [HN.out]; have := HQ.out; omega)), HC3.out, HR3.out⟩
            case measure => show q - 8 < q; omega
          · have hcc2 : ¬ cq ≤ 8 := by omega
            go_wp2_with (at_builtin; go_must (refine wpList_append_own _ rfl _ _ 39 rfl w.heap.size 34 i0 (.agg #[.int .i64 0, .int .i64 0, .int .i64 0, .int .i64 0, .int .i64 0]) 5 40 Tryd.underlying39 hI hz0 hz1 hz2 rfl (by decide) _ k ((decs l k).flatMap fiv) rfl (by have := HR2.out; unfold IR at this; rw [decs_len] at this; exact this.alloc _) ⟨w2.heap.size, 0, none⟩ 1 1 (fiv ⟨op, d, s, o, i⟩) rfl rfl (cells_five w2 ⟨op, d, s, o, i⟩ _) (by simp [fiv, Value.oneCell']) (by unfold maxLen; omega) (by omega) (by have := HC2.out.size; simp; omega) ?_); intro v3 w3 hown3 hgrow3 hnil3; refine Hid.out ?_)
            refine Lib.hid ?_
            have HC3 := Lib.hid (own_new (HC2.out.alloc _) hgrow3 (Nat.le_refl _) (by have := HR2.out; unfold IR at this; rw [decs_len] at this; exact this.alloc _))
            have HR3 := Lib.hid (show IR w3 w.heap.size 34 v3 (decs l (k + 1)) by rw [HS.out]; exact IR.snoc (by rw [decs_len]; exact hown3))
            obtain ⟨av3, ac3, rfl⟩ := own_form hown3
            clear hown3 hgrow3 hnil3
            go_wp2_with fail
            go_roundw
            case rel =>
              refine ⟨k + 1, some ⟨b', o' + 8, none⟩, q - 8, cq - 8, hkm, by have := HQ.out; omega, by omega, rfl, ?_, HC3.out, HR3.out⟩
              have h8d := HBy.out.drop 8
              rw [List.drop_drop] at h8d
              exact h8d
            case measure => show q - 8 < q; omega
        · have hkm := HLast.out hz
          have hE1 := HE1.out hkm
          have hzb : (chk ⟨op, d, s, o, i⟩ != 0) = true := by simpa using hz
          have HZ := Lib.hid hE1
          have HKz := Lib.hid hkm
          generalize chk ⟨op, d, s, o, i⟩ = c at *
          clear hz hE1 hkm
          go_wp2_with (first
            | (with_reducible refine (HCk.out _).mono ?_; rintro e w2 ⟨rfl, hc2⟩; have HC2 := Lib.hid (HC1.out.trans hc2); clear hc2)
            | fail)
          refine bodyPost_ret (v := .tuple #[.slice none 0 0, .int .i64 (k : Int), .int .i64 c]) ?_ rfl ?_
          · simp [results, Tryd.f19, go_sem]
          exact ⟨HC2.out, .inl ⟨by have := HQ.out; have := HKz.out; omega, by rw [← HZ.out, ← HKz.out]⟩⟩
    · have hq0 : decide (8 ≤ q) = false := decide_eq_false h8
      have hkm : k = m := by
        have := HQ.out; have := HM.out; have := HK.out
        rcases Nat.lt_or_ge k m with e | e <;> omega
      have HKm := Lib.hid hkm
      obtain ⟨av, ac, rfl, -, -⟩ := HR.out.form
      rw [decs_len] at HR ⊢
      clear hkm hby hch hir hk hq hcq
      by_cases hz : q = 0
      · subst hz
        go_wp2_with fail
        refine bodyPost_ret (v := .tuple #[.slice av k ac, .int .i64 0, .int .i64 0]) ?_ rfl ?_
        · simp [results, Tryd.f19, go_sem]
        refine ⟨HC.out, .inr (.inr ⟨by have := HQ.out; have := HKm.out; omega, _, rfl, ?_⟩)⟩
        rw [← HKm.out]; exact HR.out
      · have hq1 : 0 < q := by omega
        go_wp2_with fail
        refine bodyPost_ret (v := .tuple #[.slice none 0 0, .int .i64 (k : Int), .int .i64 10]) ?_ rfl ?_
        · simp [results, Tryd.f19, go_sem]
        exact ⟨HC.out, .inr (.inl ⟨by have := HQ.out; have := HKm.out; omega, by have := HQ.out; have := HKm.out; omega, by rw [← HKm.out]⟩)⟩
end Go.Proofs.YtgldkalagmjkfaaDoor

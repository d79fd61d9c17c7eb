/-
  The document's answer for counts by keys: Hold of a key that has no count.
-/
import Derived.Test.YtbjlkmmijdhgoaaCoRB
namespace Go.Proofs.Ytbjlkmmijdhgoaa
open Go.RowKit

attribute [local go_sem] Oper.semAt_some

theorem rhold_full {w : World} {D top : Nat} {v : Value} {m : List (Ct Int)} {k : Int} (h : RK w D v top m) (hA : ∀ x ∈ m, x.1 ≠ k) (hl : m.length = 64) :
    Calls Try.prog 19 #[v, .int .i64 k, .int .i64 (top : Int)] w fun e w' => e = .returned (.tuple #[v, .int .i64 3]) ∧ w' = w := by
  have HF := Lib.hid (rfind_not h hA (by omega))
  obtain ⟨a, cap, rfl⟩ := own_form h
  rw [hl] at HF ⊢
  clear h hA hl
  go_enter Try.func19, Try.ntmps19
  go_wp2_with fail
  with_reducible refine HF.out.mono ?_
  rintro e w1 ⟨rfl, rfl⟩
  go_wp2
  go_ret2
  exact ⟨rfl, rfl⟩

theorem cells4_new (w : World) (x y z u : Value) (t : TypeId) : ∀ j q, [x, y, z, u][j]? = some q → (w.alloc (.cells #[x, y, z, u] t)).cell? ((⟨w.heap.size, 0, none⟩ : Addr).add j) = some q := by
  intro j q hj
  rw [addr_add, Nat.zero_add, World.cell?_alloc_at _ _ _ _ rfl]
  match j, hj with
  | 0, hj => simpa using hj
  | 1, hj => simpa using hj
  | 2, hj => simpa using hj
  | 3, hj => simpa using hj

set_option maxRecDepth 4000 in
set_option maxHeartbeats 2000000 in
theorem rhold_new {w : World} {D top : Nat} {v : Value} {A B : List (Ct Int)} {k : Int} (h : RK w D v top (A ++ B)) (hA : ∀ x ∈ A ++ B, x.1 ≠ k) (hl : (A ++ B).length < 64) (h1 : ∀ x ∈ A, x.1 < k) (h2 : ∀ x, B.head? = some x → k < x.1) :
    Calls Try.prog 19 #[v, .int .i64 k, .int .i64 (top : Int)] w fun e w' => ∃ v', e = .returned (.tuple #[v', .int .i64 0]) ∧ RK w' w.heap.size v' top (A ++ (k, 1, false) :: B) ∧ Ch [] w w' := by
  obtain ⟨i0, hI, hz0, hz1, hz2⟩ := info_parts infoY
  have HF := Lib.hid (rfind_not h hA (by omega))
  obtain ⟨m, hm⟩ : ∃ m, m = A ++ B := ⟨_, rfl⟩
  obtain ⟨L, hL⟩ : ∃ L, L = m.length := ⟨_, rfl⟩
  obtain ⟨a, hla⟩ : ∃ a, a = A.length := ⟨_, rfl⟩
  rw [← hm] at h hl
  have haL : a ≤ L := by rw [hL, hm, hla]; simp
  have H := Lib.hid h
  have HM := Lib.hid hm
  have HL := Lib.hid hL
  have HLa := Lib.hid hla
  have H1 := Lib.hid h1
  have H2 := Lib.hid h2
  obtain ⟨ad, cap, rfl⟩ := own_form h
  rw [← hL] at HF hl ⊢
  have hd : decide ((64 : Int) ≤ (L : Int)) = false := by simp; omega
  clear h hm hL hla hA h1 h2
  go_enter Try.func19, Try.ntmps19
  go_wp2_with fail
  with_reducible refine HF.out.mono ?_
  rintro e w1 ⟨rfl, rfl⟩
  go_wp2_with fail
  go_loopw [12, 13] (fun ov iv wr => ∃ (i : Nat) (vo : Value), i ≤ a ∧ iv = .int .i64 (i : Int) ∧ vo = ov ∧ RK wr w1.heap.size vo top (A.take i) ∧ Ch [] w1 wr) (fun _ iv _ => L - (intOf iv).toNat)
  case atStart => exact ⟨0, _, Nat.zero_le _, rfl, rfl, World.ownsRow_nil w1 _ _ _, Ch.refl _ _⟩
  case round =>
    obtain ⟨i, vo, hi, rfl, rfl, ho, hc⟩ := hrel
    have HO := Lib.hid ho
    have HC := Lib.hid hc
    clear ho hc
    have hb0 : (0 : Int) ≤ (i : Int) := by omega
    by_cases hlt : i < a
    · obtain ⟨x, hx⟩ : ∃ x, A[i]? = some x := ⟨_, List.getElem?_eq_getElem (by rw [← HLa.out]; exact hlt)⟩
      have hb1 : (i : Int) < (L : Int) := by omega
      obtain ⟨g, cap', e, _, hgl, _, _, c0, c1, c2, c3, _⟩ := (H.out.quiet HC.out).cells (k := i) (x := x) (by rw [HM.out, List.getElem?_append_left (by rw [← HLa.out]; exact hlt)]; exact hx)
      rw [← HL.out] at e
      obtain ⟨rfl, rfl⟩ : ad = some ⟨g, 0, none⟩ ∧ cap = cap' := by simpa using e
      clear e
      have hd2 : decide ((i : Int) < (L : Int)) = true := by simpa using hb1
      have hd3 : decide (x.1 < k) = true := by simpa using H1.out x (List.mem_of_getElem? hx)
      have HX := Lib.hid (show A.take (i + 1) = A.take i ++ [x] by rw [List.take_add_one, hx]; rfl)
      have hlen : (A.take i).length = i := by rw [List.length_take]; have := HLa.out; omega
      have HO1 := Lib.hid (show wr.ownsRow w1.heap.size 59 4 vo i (rk top (A.take i)) by have := HO.out; unfold RK at this; rw [hlen] at this; exact this)
      obtain ⟨x1, x2, x3⟩ := x
      have HN := Lib.hid (cells4_new wr (.int .i64 x1) (.int .i64 (x2 : Int)) (.int .i64 (top : Int)) (.bool x3) 59)
      have hsz := HC.out.size
      simp only at c0 c1 c2 c3 hd3
      have HLen := Lib.hid hlen
      clear hx hlen HO
      go_wp2_with (at_builtin; go_must (refine wpList_append_own _ rfl _ _ 47 rfl w1.heap.size 59 i0 (.agg #[.int .i64 0, .int .i64 0, .int .i64 0, .bool false]) 4 32 Try.underlying47 hI hz0 hz1 hz2 rfl (by decide) vo i (rk top (A.take i)) rfl (HO1.out.alloc _) ⟨wr.heap.size, 0, none⟩ 1 1 [.int .i64 x1, .int .i64 (x2 : Int), .int .i64 (top : Int), .bool x3] rfl rfl HN.out ?c1 (by unfold maxLen; omega) (by omega) ?c2 ?_))
      case c1 =>
        intro u hu
        simp at hu
        rcases hu with rfl | rfl | rfl | rfl <;> rfl
      case c2 => simp; omega
      intro v' w4 hown4 hg4 hne4
      have HR4 := Lib.hid (show RK w4 w1.heap.size v' top (A.take (i + 1)) by
        unfold RK
        rw [HX.out, rk_append, List.length_append, HLen.out]
        exact hown4)
      have HC4 := Lib.hid ((HC.out.alloc _).kept hg4 (fun r e => (World.ownsRow.lt HO1.out r e).1))
      clear hown4 hg4 hne4 c0 c1 c2 c3
      go_wp2_with fail
      go_roundw
      case rel => exact ⟨i + 1, v', by omega, by go_num, rfl, HR4.out, HC4.out⟩
      case measure => simp [intOf]; omega
    · obtain rfl : i = a := by omega
      have hA2 : A.take i = A := by rw [HLa.out, List.take_length]
      have HO1 := Lib.hid (show wr.ownsRow w1.heap.size 59 4 vo i (rk top A) by have := HO.out; unfold RK at this; rw [hA2, ← HLa.out] at this; exact this)
      have HN := Lib.hid (cells4_new wr (.int .i64 k) (.int .i64 1) (.int .i64 (top : Int)) (.bool false) 59)
      have hsz := HC.out.size
      clear HO hA2
      have hcase : i < L ∨ (i = L ∧ ad = none ∧ L = 0 ∧ cap = 0) ∨ (i = L ∧ ∃ g, ad = some ⟨g, 0, none⟩ ∧ L ≤ cap ∧ cap ≤ maxLen) := by
        by_cases h3 : i < L
        · exact .inl h3
        · have h4 : i = L := by omega
          have hh := H.out.2
          rw [← HL.out] at hh
          rcases hh with ⟨e, _⟩ | ⟨g, cp, cur, e, _, _, h5, h6, _⟩
          · have e2 : ad = none ∧ L = 0 ∧ cap = 0 := by simpa using e
            exact .inr (.inl ⟨h4, e2⟩)
          · have e2 : ad = some ⟨g, 0, none⟩ ∧ cap = cp := by simpa using e
            exact .inr (.inr ⟨h4, g, e2.1, by rw [e2.2]; exact h5, by rw [e2.2]; exact h6⟩)
      rcases hcase with h3 | ⟨h3, rfl, hL0, hcap0⟩ | ⟨h3, g, rfl, hlc, hcm⟩
      · obtain ⟨x, hx⟩ : ∃ x, m[i]? = some x := ⟨_, List.getElem?_eq_getElem (by rw [← HL.out]; exact h3)⟩
        have hb1 : (i : Int) < (L : Int) := by omega
        obtain ⟨g, cap', e, _, hgl, hlc, hcm, c0, c1, c2, c3, _⟩ := (H.out.quiet HC.out).cells hx
        rw [← HL.out] at e hlc
        obtain ⟨rfl, rfl⟩ : ad = some ⟨g, 0, none⟩ ∧ cap = cap' := by simpa using e
        clear e
        have hd2 : decide ((i : Int) < (L : Int)) = true := by simpa using hb1
        have hd3 : decide (x.1 < k) = false := by
          have : B.head? = some x := by
            rw [HM.out, List.getElem?_append_right (by rw [← HLa.out]; exact Nat.le_refl _), ← HLa.out] at hx
            rw [List.head?_eq_getElem?]
            simpa using hx
          have := H2.out x this
          simp; omega
        clear c1 c2 c3 hx
        go_wp2_with (at_builtin; go_must (refine wpList_append_own _ rfl _ _ 47 rfl w1.heap.size 59 i0 (.agg #[.int .i64 0, .int .i64 0, .int .i64 0, .bool false]) 4 32 Try.underlying47 hI hz0 hz1 hz2 rfl (by decide) vo i (rk top A) rfl (HO1.out.alloc _) ⟨wr.heap.size, 0, none⟩ 1 1 [.int .i64 k, .int .i64 1, .int .i64 (top : Int), .bool false] rfl rfl HN.out ?c1 (by unfold maxLen; omega) (by omega) ?c2 ?_))
        case c1 =>
          intro u hu
          simp at hu
          rcases hu with rfl | rfl | rfl | rfl <;> rfl
        case c2 => simp; omega
        intro v4 w4 hown4 hg4 hne4
        replace hne4 : v4 ≠ .slice none 0 0 := hne4
        obtain ⟨g4, cp4, rfl⟩ := own_some hown4 hne4
        have HC4 := Lib.hid ((HC.out.alloc _).kept hg4 (fun r e => (World.ownsRow.lt HO1.out r e).1))
        have HO4 := Lib.hid hown4
        have HB4 := Lib.hid (World.ownsRow.lt hown4 g4 rfl).1
        clear hown4 hg4 hne4
        have hbb0 : (0 : Int) ≤ (i : Int) := by omega
        have hbb1 : (i : Int) ≤ (L : Int) := by omega
        have hbb2 : (L : Int) ≤ (cap : Int) := by omega
        have hbb3 : (i : Int) ≤ (cap : Int) := by omega
        have hbt : ((i : Int)).toNat = i := rfl
        go_wp2_with (at_builtin; go_must (refine wpList_append_own _ rfl _ _ 47 rfl w1.heap.size 59 i0 (.agg #[.int .i64 0, .int .i64 0, .int .i64 0, .bool false]) 4 32 Try.underlying47 hI hz0 hz1 hz2 rfl (by decide) (.slice (some ⟨g4, 0, none⟩) (i + 1) cp4) (i + 1) (rk top A ++ [.int .i64 k, .int .i64 1, .int .i64 (top : Int), .bool false]) rfl HO4.out ⟨g, i * 4, none⟩ (L - i) (cap - i) (rk top B) ?d9 ?d1 ?d2 ?d3 ?d4 ?d5 ?d6 ?_))
        case d9 => simp [Act.eval]
        case d1 => rw [rk_len]; have := HL.out; rw [HM.out, List.length_append, ← HLa.out] at this; omega
        case d2 =>
          intro j u hj
          have hR := H.out.quiet HC4.out
          have hjl : j < B.length * 4 := by have := (List.getElem?_eq_some_iff.1 hj).1; rwa [rk_len] at this
          rw [addr_add]
          have hml : m.length = A.length + B.length := by rw [HM.out, List.length_append]
          have hcell := World.ownsRow.cellAt (show w4.ownsRow D 59 4 (.slice (some ⟨g, 0, none⟩) m.length cap) m.length (rk top m) by have := hR; unfold RK at this; rw [← HL.out] at this ⊢; exact this) (i * 4 + j) (by have := HLa.out; omega)
          rw [hcell, HM.out, rk_append, List.getElem?_append_right (by rw [rk_len, ← HLa.out]; omega), rk_len, ← HLa.out, Nat.add_sub_cancel_left]
          exact hj
        case d3 => exact rk_one top B
        case d4 => unfold maxLen; omega
        case d5 => omega
        case d6 => exact HC4.out.size
        intro v5 w5 hown5 hg5 hne5
        have HR5 := Lib.hid (show RK w5 w1.heap.size v5 top (A ++ (k, 1, false) :: B) by
          unfold RK
          have e1 : (A ++ (k, 1, false) :: B).length = i + 1 + (L - i) := by have := HL.out; rw [HM.out, List.length_append] at this; rw [List.length_append, List.length_cons, ← HLa.out]; have := HLa.out; omega
          rw [e1, rk_append, rk_cons]
          exact hown5)
        have HC5 := Lib.hid (HC4.out.kept hg5 (fun r e => by have := HB4.out; simp [Value.ownBlock] at e; omega))
        clear hown5 hg5 hne5
        go_wp2
        go_ret2
        exact ⟨v5, rfl, HR5.out, HC5.out⟩
      · have hd2 : decide ((i : Int) < (L : Int)) = false := by simp; omega
        obtain rfl := hL0
        obtain rfl := hcap0
        obtain rfl := h3
        go_wp2_with (at_builtin; go_must (refine wpList_append_own _ rfl _ _ 47 rfl w1.heap.size 59 i0 (.agg #[.int .i64 0, .int .i64 0, .int .i64 0, .bool false]) 4 32 Try.underlying47 hI hz0 hz1 hz2 rfl (by decide) vo 0 (rk top A) rfl (HO1.out.alloc _) ⟨wr.heap.size, 0, none⟩ 1 1 [.int .i64 k, .int .i64 1, .int .i64 (top : Int), .bool false] rfl rfl HN.out ?c1 (by unfold maxLen; omega) (by omega) ?c2 ?_))
        case c1 =>
          intro u hu
          simp at hu
          rcases hu with rfl | rfl | rfl | rfl <;> rfl
        case c2 => simp; omega
        intro v4 w4 hown4 hg4 hne4
        replace hne4 : v4 ≠ .slice none 0 0 := hne4
        obtain ⟨g4, cp4, rfl⟩ := own_some hown4 hne4
        have HC4 := Lib.hid ((HC.out.alloc _).kept hg4 (fun r e => (World.ownsRow.lt HO1.out r e).1))
        have HO4 := Lib.hid hown4
        have HB4 := Lib.hid (World.ownsRow.lt hown4 g4 rfl).1
        clear hown4 hg4 hne4
        go_wp2_with (at_builtin; go_must (refine wpList_append_own_none rfl _ _ 47 rfl w1.heap.size 59 i0 4 Try.underlying47 hI (.slice (some ⟨g4, 0, none⟩) (0 + 1) cp4) (0 + 1) (rk top A ++ [.int .i64 k, .int .i64 1, .int .i64 (top : Int), .bool false]) rfl HO4.out ?d9 ?_))
        case d9 => simp [Act.eval]
        have HR5 := Lib.hid (show RK w4 w1.heap.size (.slice (some ⟨g4, 0, none⟩) (0 + 1) cp4) top (A ++ (k, 1, false) :: B) by
          have hB : B = [] := by
            have e1 := HL.out
            rw [HM.out, List.length_append] at e1
            exact List.eq_nil_of_length_eq_zero (by omega)
          have hA0 : A = [] := List.eq_nil_of_length_eq_zero HLa.out.symm
          unfold RK
          rw [hB, hA0]
          have := HO4.out
          rw [hA0] at this
          simpa [rk, kc] using this)
        go_wp2
        go_ret2
        exact ⟨_, rfl, HR5.out, HC4.out⟩
      · have hd2 : decide ((i : Int) < (L : Int)) = false := by simp; omega
        have h4 : ¬ i < L := by omega
        have hcc : i < cap ∨ i = cap := by omega
        have hB : B = [] := by
          have e1 := HL.out
          rw [HM.out, List.length_append] at e1
          exact List.eq_nil_of_length_eq_zero (by have := HLa.out; omega)
        have HBn := Lib.hid hB
        clear h3 hB
        rcases hcc with h5 | h5
        · have hbb4 : (i : Int) < (cap : Int) := by omega
          have hbb5 : ¬ ((i : Int) = (cap : Int)) := by omega
          have hbb6 : ¬ i = cap := by omega
          go_wp2_with (at_builtin; go_must (refine wpList_append_own _ rfl _ _ 47 rfl w1.heap.size 59 i0 (.agg #[.int .i64 0, .int .i64 0, .int .i64 0, .bool false]) 4 32 Try.underlying47 hI hz0 hz1 hz2 rfl (by decide) vo i (rk top A) rfl (HO1.out.alloc _) ⟨wr.heap.size, 0, none⟩ 1 1 [.int .i64 k, .int .i64 1, .int .i64 (top : Int), .bool false] rfl rfl HN.out ?c1 (by unfold maxLen; omega) (by omega) ?c2 ?_))
          case c1 =>
            intro u hu
            simp at hu
            rcases hu with rfl | rfl | rfl | rfl <;> rfl
          case c2 => simp; omega
          intro v4 w4 hown4 hg4 hne4
          replace hne4 : v4 ≠ .slice none 0 0 := hne4
          obtain ⟨g4, cp4, rfl⟩ := own_some hown4 hne4
          have HC4 := Lib.hid ((HC.out.alloc _).kept hg4 (fun r e => (World.ownsRow.lt HO1.out r e).1))
          have HO4 := Lib.hid hown4
          have HB4 := Lib.hid (World.ownsRow.lt hown4 g4 rfl).1
          clear hown4 hg4 hne4
          have hbb0 : (0 : Int) ≤ (i : Int) := by omega
          have hbb1 : (i : Int) ≤ (L : Int) := by omega
          have hbb2 : (L : Int) ≤ (cap : Int) := by omega
          have hbb3 : (i : Int) ≤ (cap : Int) := by omega
          have hbt : ((i : Int)).toNat = i := rfl
          go_wp2_with (at_builtin; go_must (refine wpList_append_own _ rfl _ _ 47 rfl w1.heap.size 59 i0 (.agg #[.int .i64 0, .int .i64 0, .int .i64 0, .bool false]) 4 32 Try.underlying47 hI hz0 hz1 hz2 rfl (by decide) (.slice (some ⟨g4, 0, none⟩) (i + 1) cp4) (i + 1) (rk top A ++ [.int .i64 k, .int .i64 1, .int .i64 (top : Int), .bool false]) rfl HO4.out ⟨g, i * 4, none⟩ (L - i) (cap - i) (rk top B) ?d9 ?d1 ?d2 ?d3 ?d4 ?d5 ?d6 ?_))
          case d9 => simp [Act.eval]
          case d1 => rw [rk_len]; have := HL.out; rw [HM.out, List.length_append, ← HLa.out] at this; omega
          case d2 =>
            intro j u hj
            have hR := H.out.quiet HC4.out
            have hjl : j < B.length * 4 := by have := (List.getElem?_eq_some_iff.1 hj).1; rwa [rk_len] at this
            rw [addr_add]
            have hml : m.length = A.length + B.length := by rw [HM.out, List.length_append]
            have hcell := World.ownsRow.cellAt (show w4.ownsRow D 59 4 (.slice (some ⟨g, 0, none⟩) m.length cap) m.length (rk top m) by have := hR; unfold RK at this; rw [← HL.out] at this ⊢; exact this) (i * 4 + j) (by have := HLa.out; omega)
            rw [hcell, HM.out, rk_append, List.getElem?_append_right (by rw [rk_len, ← HLa.out]; omega), rk_len, ← HLa.out, Nat.add_sub_cancel_left]
            exact hj
          case d3 => exact rk_one top B
          case d4 => unfold maxLen; omega
          case d5 => omega
          case d6 => exact HC4.out.size
          intro v5 w5 hown5 hg5 hne5
          have HR5 := Lib.hid (show RK w5 w1.heap.size v5 top (A ++ (k, 1, false) :: B) by
            unfold RK
            have e1 : (A ++ (k, 1, false) :: B).length = i + 1 + (L - i) := by have := HL.out; rw [HM.out, List.length_append] at this; rw [List.length_append, List.length_cons, ← HLa.out]; have := HLa.out; omega
            rw [e1, rk_append, rk_cons]
            exact hown5)
          have HC5 := Lib.hid (HC4.out.kept hg5 (fun r e => by have := HB4.out; simp [Value.ownBlock] at e; omega))
          clear hown5 hg5 hne5
          go_wp2
          go_ret2
          exact ⟨v5, rfl, HR5.out, HC5.out⟩
        · obtain rfl := h5
          go_wp2_with (at_builtin; go_must (refine wpList_append_own _ rfl _ _ 47 rfl w1.heap.size 59 i0 (.agg #[.int .i64 0, .int .i64 0, .int .i64 0, .bool false]) 4 32 Try.underlying47 hI hz0 hz1 hz2 rfl (by decide) vo i (rk top A) rfl (HO1.out.alloc _) ⟨wr.heap.size, 0, none⟩ 1 1 [.int .i64 k, .int .i64 1, .int .i64 (top : Int), .bool false] rfl rfl HN.out ?c1 (by unfold maxLen; omega) (by omega) ?c2 ?_))
          case c1 =>
            intro u hu
            simp at hu
            rcases hu with rfl | rfl | rfl | rfl <;> rfl
          case c2 => simp; omega
          intro v4 w4 hown4 hg4 hne4
          replace hne4 : v4 ≠ .slice none 0 0 := hne4
          obtain ⟨g4, cp4, rfl⟩ := own_some hown4 hne4
          have HC4 := Lib.hid ((HC.out.alloc _).kept hg4 (fun r e => (World.ownsRow.lt HO1.out r e).1))
          have HO4 := Lib.hid hown4
          have HB4 := Lib.hid (World.ownsRow.lt hown4 g4 rfl).1
          clear hown4 hg4 hne4
          have hbb0 : (0 : Int) ≤ (i : Int) := by omega
          have hbb1 : (i : Int) ≤ (L : Int) := by omega
          have hbb2 : (L : Int) ≤ (i : Int) := by omega
          have hbb3 : (i : Int) ≤ (i : Int) := by omega
          have hbt : ((i : Int)).toNat = i := rfl
          go_wp2_with (at_builtin; go_must (refine wpList_append_own _ rfl _ _ 47 rfl w1.heap.size 59 i0 (.agg #[.int .i64 0, .int .i64 0, .int .i64 0, .bool false]) 4 32 Try.underlying47 hI hz0 hz1 hz2 rfl (by decide) (.slice (some ⟨g4, 0, none⟩) (i + 1) cp4) (i + 1) (rk top A ++ [.int .i64 k, .int .i64 1, .int .i64 (top : Int), .bool false]) rfl HO4.out ⟨g, 0, none⟩ 0 0 (rk top B) ?d9 ?d1 ?d2 ?d3 ?d4 ?d5 ?d6 ?_))
          case d9 => simp [Act.eval]
          case d1 => rw [HBn.out]; rfl
          case d2 => rw [HBn.out]; intro j u hj; simp [rk] at hj
          case d3 => exact rk_one top B
          case d4 => unfold maxLen; omega
          case d5 => omega
          case d6 => exact HC4.out.size
          intro v5 w5 hown5 hg5 hne5
          have HR5 := Lib.hid (show RK w5 w1.heap.size v5 top (A ++ (k, 1, false) :: B) by
            unfold RK
            have e1 : (A ++ (k, 1, false) :: B).length = i + 1 := by rw [HBn.out, List.length_append, ← HLa.out]; rfl
            rw [e1, rk_append, rk_cons]
            exact hown5)
          have HC5 := Lib.hid (HC4.out.kept hg5 (fun r e => by have := HB4.out; simp [Value.ownBlock] at e; omega))
          clear hown5 hg5 hne5
          go_wp2
          go_ret2
          exact ⟨v5, rfl, HR5.out, HC5.out⟩
end Go.Proofs.Ytbjlkmmijdhgoaa

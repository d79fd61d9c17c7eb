/-
  The document's answer for orders: its list as a row of the law's own; Find, Drop, Touch.
-/
import Derived.Laws.OwnMore
import Derived.Laws.AppendOwnNone
import Derived.OwnWalk
import Derived.Test.YtediabcgeghogaaOIH
namespace Go.Proofs.Ytediabcgeghogaa
open Go.RowKit oI

attribute [local go_sem] Oper.semAt_some

/-- A list of keys, in a row of the call's own from D on. -/
def RI (w : World) (D : Nat) (v : Value) (L : List Int) : Prop := w.ownsRow D 3 1 v L.length (kvs L)
theorem RI.mono {w : World} {D D' : Nat} {v : Value} {L : List Int} (h : RI w D v L) (hD : D' ≤ D) : RI w D' v L := own_mono h hD
theorem RI.ch {w w' : World} {S : List Nat} {D : Nat} {v : Value} {L : List Int} (h : RI w D v L) (hc : Ch S w w') (hS : ∀ k ∈ S, k < D) : RI w' D v L := own_ch h hc hS
theorem RI.quiet {w w' : World} {D : Nat} {v : Value} {L : List Int} (h : RI w D v L) (hc : Ch [] w w') : RI w' D v L := h.ch hc (by simp)
theorem RI.cell {w : World} {D : Nat} {v : Value} {L : List Int} (h : RI w D v L) {j : Nat} {k : Int} (hk : L[j]? = some k) : ∃ g cap, v = .slice (some ⟨g, 0, none⟩) L.length cap ∧ D ≤ g ∧ g < w.heap.size ∧ L.length ≤ cap ∧ cap ≤ maxLen ∧ w.cell? ⟨g, j, none⟩ = some (.int .i64 k) := by
  have hlt := (List.getElem?_eq_some_iff.1 hk).1
  rcases h.2 with ⟨_, h0⟩ | ⟨g, cap, cur, rfl, hb, hg, hn, hm, _⟩
  · omega
  · refine ⟨g, cap, rfl, hb, (Array.getElem?_eq_some_iff.1 hg).1, hn, hm, ?_⟩
    rw [World.ownsRow.cellAt h j (by omega)]
    simp [kvs, hk]
/-- Where a key stands. -/
theorem in_parts {L : List Int} {k : Int} (h : k ∈ L) : ∃ A B, L = A ++ k :: B ∧ k ∉ A := by
  induction L with
  | nil => cases h
  | cons x r ih =>
    by_cases e : x = k
    · exact ⟨[], r, by rw [e]; rfl, by simp⟩
    · obtain ⟨A, B, rfl, hA⟩ := ih ((List.mem_cons.1 h).resolve_left (fun e2 => e e2.symm))
      exact ⟨x :: A, B, rfl, by simp; exact ⟨fun e2 => e e2.symm, hA⟩⟩

theorem rfind_in {w : World} {D : Nat} {v : Value} {A B : List Int} {k : Int} (h : RI w D v (A ++ k :: B)) (hA : k ∉ A) (hl : (A ++ k :: B).length ≤ 64) :
    Calls Try.prog 19 #[v, .int .i64 k] w fun e w' => e = .returned (.int .i64 (A.length : Int)) ∧ w' = w := by
  obtain ⟨m, hm⟩ : ∃ m, m = A ++ k :: B := ⟨_, rfl⟩
  obtain ⟨L, hL⟩ : ∃ L, L = m.length := ⟨_, rfl⟩
  obtain ⟨a, hla⟩ : ∃ a, a = A.length := ⟨_, rfl⟩
  rw [← hm] at h hl
  have haL : a < L := by rw [hL, hm, hla]; simp
  have H := Lib.hid h
  have HM := Lib.hid hm
  have HAp := Lib.hid hA
  have HLa := Lib.hid hla
  have HL := Lib.hid hL
  obtain ⟨g, cap, rfl, _⟩ := h.cell (j := a) (k := k) (by rw [hm, hla]; simp)
  rw [← hL] at hl ⊢
  rw [← hla]
  clear h hm hL hla hA
  go_enter Try.func19, Try.ntmps19
  go_wp2
  go_loopw [5] (fun iv wr => ∃ i : Nat, i ≤ a ∧ iv = .int .i64 (i : Int) ∧ wr = w) (fun iv _ => L - (intOf iv).toNat)
  case atStart => exact ⟨0, Nat.zero_le _, rfl, rfl⟩
  case round =>
    obtain ⟨i, hi, rfl, rfl⟩ := hrel
    have hb0 : (0 : Int) ≤ (i : Int) := by omega
    have hb1 : (i : Int) < (L : Int) := by omega
    by_cases hlt : i < a
    · obtain ⟨x, hx⟩ : ∃ x, A[i]? = some x := ⟨_, List.getElem?_eq_getElem (by rw [← HLa.out]; exact hlt)⟩
      obtain ⟨g', cap', e, _, _, _, _, c0⟩ := H.out.cell (j := i) (k := x) (by rw [HM.out, List.getElem?_append_left (by rw [← HLa.out]; exact hlt)]; exact hx)
      cases e
      have hne : (x == k) = false := by simp; exact fun e => HAp.out (e ▸ List.mem_of_getElem? hx)
      clear hx
      go_wp2
      go_roundw
      case rel => exact ⟨i + 1, by omega, by go_num, trivial⟩
      case measure => simp [intOf]; omega
    · obtain rfl : i = a := by omega
      obtain ⟨g', cap', e, _, _, _, _, c0⟩ := H.out.cell (j := i) (k := k) (by rw [HM.out, HLa.out]; simp)
      cases e
      have hne : (k == k) = true := by simp
      go_wp2
      go_ret
      exact ⟨rfl, rfl⟩

theorem rfind_not {w : World} {D : Nat} {v : Value} {m : List Int} {k : Int} (h : RI w D v m) (hA : k ∉ m) (hl : m.length ≤ 64) :
    Calls Try.prog 19 #[v, .int .i64 k] w fun e w' => e = .returned (.int .i64 (-1)) ∧ w' = w := by
  obtain ⟨a, cap, rfl⟩ := own_form h
  obtain ⟨L, hL⟩ : ∃ L, L = m.length := ⟨_, rfl⟩
  have H := Lib.hid h
  have HAp := Lib.hid hA
  have HL := Lib.hid hL
  rw [← hL] at hl ⊢
  clear h hL hA
  go_enter Try.func19, Try.ntmps19
  go_wp2
  go_loopw [5] (fun iv wr => ∃ i : Nat, i ≤ L ∧ iv = .int .i64 (i : Int) ∧ wr = w) (fun iv _ => L - (intOf iv).toNat)
  case atStart => exact ⟨0, Nat.zero_le _, rfl, rfl⟩
  case round =>
    obtain ⟨i, hi, rfl, rfl⟩ := hrel
    by_cases hlt : i < L
    · have hb0 : (0 : Int) ≤ (i : Int) := by omega
      have hb1 : (i : Int) < (L : Int) := by omega
      obtain ⟨x, hx⟩ : ∃ x, m[i]? = some x := ⟨_, List.getElem?_eq_getElem (by rw [← HL.out]; exact hlt)⟩
      obtain ⟨g', cap', e, _, _, _, _, c0⟩ := H.out.cell (j := i) (k := x) hx
      cases e
      have hne : (x == k) = false := by simp; exact fun e => HAp.out (e ▸ List.mem_of_getElem? hx)
      clear hx
      go_wp2
      go_roundw
      case rel => exact ⟨i + 1, by omega, by go_num, trivial⟩
      case measure => simp [intOf]; omega
    · obtain rfl : i = L := by omega
      go_wp2
      go_ret
      exact ⟨rfl, rfl⟩

theorem kvs_app (a b : List Int) : kvs (a ++ b) = kvs a ++ kvs b := by simp [kvs]

theorem rdrop_not {w : World} {D : Nat} {v : Value} {m : List Int} {k : Int} (h : RI w D v m) (hA : k ∉ m) (hl : m.length ≤ 64) :
    Calls Try.prog 9 #[v, .int .i64 k] w fun e w' => e = .returned (.tuple #[v, .bool false]) ∧ w' = w := by
  have HF := Lib.hid (rfind_not h hA hl)
  clear h hA hl
  go_enter Try.func9, Try.ntmps9
  go_wp2_with fail
  with_reducible refine HF.out.mono ?_
  rintro e w' ⟨rfl, rfl⟩
  go_wp2_with fail
  go_ret2
  exact ⟨rfl, rfl⟩

set_option maxHeartbeats 1000000 in
theorem rdrop_in {w : World} {D : Nat} {v : Value} {A B : List Int} {k : Int} (h : RI w D v (A ++ k :: B)) (hA : k ∉ A) (hl : (A ++ k :: B).length ≤ 64) :
    Calls Try.prog 9 #[v, .int .i64 k] w fun e w' => ∃ v', e = .returned (.tuple #[v', .bool true]) ∧ RI w' w.heap.size v' (A ++ B) ∧ Ch [] w w' := by
  obtain ⟨i0, hI, hz0, hz1, hz2⟩ := info_parts oI.infoE
  have HF := Lib.hid (rfind_in h hA hl)
  obtain ⟨i, hi⟩ : ∃ i, i = A.length := ⟨_, rfl⟩
  obtain ⟨n, hj⟩ : ∃ n, n = i + B.length := ⟨_, rfl⟩
  rw [← hi] at HF
  have hn : (A ++ k :: B).length = n + 1 := by rw [List.length_append, List.length_cons, hj, hi]; omega
  obtain ⟨g, cap, rfl, hDg, hgl, hcap, hcm, _⟩ := h.cell (j := i) (k := k) (by rw [hi]; simp)
  rw [hn] at hcap HF hl ⊢
  unfold maxLen at hcm
  have hcA : ∀ t u, (kvs A)[t]? = some u → w.cell? ⟨g, t, none⟩ = some u := fun t u hu => by
    have ht := (List.getElem?_eq_some_iff.1 hu).1
    simp [kvs] at ht
    rw [World.ownsRow.cellAt h t (by rw [hn, hj, hi]; omega), kvs_app, List.getElem?_append_left (by simpa [kvs] using ht)]
    exact hu
  have hcB : ∀ t u, (kvs B)[t]? = some u → w.cell? ⟨g, i + 1 + t, none⟩ = some u := fun t u hu => by
    have ht := (List.getElem?_eq_some_iff.1 hu).1
    simp [kvs] at ht
    rw [World.ownsRow.cellAt h (i + 1 + t) (by rw [hn, hj]; omega), kvs_app, List.getElem?_append_right (by simp [kvs, ← hi]; omega), show i + 1 + t - (kvs A).length = t + 1 by simp [kvs, ← hi]; omega]
    simpa [kvs] using hu
  have HA := Lib.hid hcA
  have HB := Lib.hid hcB
  have HI := Lib.hid hi
  have HJ := Lib.hid hj
  have hd1 : decide ((i : Int) < 0) = false := by simp
  have hin0 : i ≤ n := by omega
  have hi63 : i ≤ 9223372036854775807 := by omega
  clear h hA hcA hcB hi hj hn
  go_enter Try.func9, Try.ntmps9
  go_wp2_with fail
  with_reducible refine HF.out.mono ?_
  rintro e w' ⟨rfl, hww⟩
  subst w'
  go_wp2_with (at_builtin; go_must (refine wpList_append_own _ rfl _ _ 28 rfl w.heap.size 3 i0 (.int .i64 0) 1 8 Try.underlying28 hI hz0 hz1 hz2 rfl (by decide) (.slice (some ⟨w.heap.size, 0, none⟩) 0 0) 0 [] rfl ?c0 ⟨g, 0, none⟩ i cap (kvs A) rfl ?c1 ?c2 ?c3 ?c4 ?c5 ?c6 ?_))
  case c0 => exact World.ownsRow_lit w #[] 0 (Nat.le_refl _) (Nat.zero_le _) rfl
  case c1 => simp [kvs, ← HI.out]
  case c2 =>
    intro t u hu
    rw [addr_add, Nat.zero_add, World.cell?_alloc_past _ _ _ hgl]
    exact HA.out t u hu
  case c3 => exact kvs_one A
  case c4 => unfold maxLen; omega
  case c5 => omega
  case c6 => simp
  intro v1 w1 hown1 hgrow1 _
  have hB1 : Ch [] w w1 := ((Ch.refl [] w).alloc _).kept hgrow1 (fun r e => by cases e; exact Nat.le_refl _)
  have HO1 := Lib.hid hown1
  have HC1 := Lib.hid hB1
  have HK := Lib.hid (kvs_app A B)
  have HLn := Lib.hid (show (A ++ B).length = i + (n - i) by rw [List.length_append, HI.out, HJ.out, HI.out]; omega)
  have HLb := Lib.hid (show (kvs B).length = (n - i) * 1 by simp [kvs, HJ.out])
  have hs1 := hB1.size
  have hin : i ≤ n := by rw [HJ.out]; omega
  have hsum : IntKind.i64.wrap ((i : Int) + 1) = (i : Int) + 1 := IntWalk.i64_in _ (by omega)
  have htn : ((i : Int) + 1).toNat = i + 1 := by omega
  have hge : (0 : Int) ≤ (i : Int) + 1 := by omega
  have hle : (i : Int) + 1 ≤ (n : Int) + 1 := by omega
  have HNW := Lib.hid (show ∀ (t : Nat) (u : Value), (kvs B)[t]? = some u → w1.cell? ((⟨g, i + 1, none⟩ : Addr).add t) = some u from fun t u hu => by
    rw [addr_add]
    exact (hB1.cell (p := ⟨g, i + 1 + t, none⟩) hgl (by simp)).trans (HB.out t u hu))
  clear hown1 hB1 hgrow1
  by_cases hcz : cap = i + 1
  · obtain rfl : i = n := by omega
    subst hcz
    have hB0 : B = [] := List.eq_nil_of_length_eq_zero (by have := HJ.out; omega)
    go_wp2_with (at_builtin; go_must (refine wpList_append_own _ rfl _ _ 28 rfl w.heap.size 3 i0 (.int .i64 0) 1 8 Try.underlying28 hI hz0 hz1 hz2 rfl (by decide) v1 i (kvs A) rfl HO1.out ⟨g, 0, none⟩ 0 0 [] rfl rfl ?d2 ?d3 ?d4 ?d5 hs1 ?_))
    case d2 => intro t u hu; simp at hu
    case d3 => intro u hu; cases hu
    case d4 => unfold maxLen; omega
    case d5 => omega
    intro v2 w2 hown2 hgrow2 _
    have HE := Lib.hid (show RI w2 w.heap.size v2 (A ++ B) by
      unfold RI
      rw [hB0, List.append_nil, ← HI.out]
      simpa using hown2)
    have HC2 := Lib.hid (HC1.out.kept hgrow2 (fun r e => (HO1.out.lt r e).1))
    clear hown2 hgrow2
    go_wp2
    go_ret2
    exact ⟨v2, rfl, HE.out, HC2.out⟩
  · go_wp2_with (at_builtin; go_must (refine wpList_append_own _ rfl _ _ 28 rfl w.heap.size 3 i0 (.int .i64 0) 1 8 Try.underlying28 hI hz0 hz1 hz2 rfl (by decide) v1 i (kvs A) rfl HO1.out ⟨g, i + 1, none⟩ (n - i) (cap - (i + 1)) (kvs B) rfl HLb.out ?d2 ?d3 ?d4 ?d5 hs1 ?_))
    case d2 => exact HNW.out
    case d3 => exact kvs_one B
    case d4 => unfold maxLen; omega
    case d5 => omega
    intro v2 w2 hown2 hgrow2 _
    have HE := Lib.hid (show RI w2 w.heap.size v2 (A ++ B) by
      unfold RI
      rw [HLn.out, HK.out, show i + (n - i) = n by omega]
      exact hown2)
    have HC2 := Lib.hid (HC1.out.kept hgrow2 (fun r e => (HO1.out.lt r e).1))
    clear hown2 hgrow2
    go_wp2
    go_ret2
    exact ⟨v2, rfl, HE.out, HC2.out⟩

theorem rdrop_any {w : World} {D : Nat} {v : Value} {L : List Int} {k : Int} (h : RI w D v L) (hnd : L.Nodup) (hl : L.length ≤ 64) (hD : D ≤ w.heap.size) :
    Calls Try.prog 9 #[v, .int .i64 k] w fun e w' => ∃ v', e = .returned (.tuple #[v', .bool (decide (k ∈ L))]) ∧ RI w' D v' (drp L k) ∧ Ch [] w w' := by
  by_cases hk : k ∈ L
  · rw [decide_eq_true hk]
    obtain ⟨A, B, rfl, hA⟩ := in_parts hk
    rw [drp_parts hnd]
    refine (rdrop_in h hA hl).mono ?_
    rintro e w' ⟨v', rfl, h2, hc⟩
    exact ⟨v', rfl, h2.mono hD, hc⟩
  · rw [decide_eq_false hk, drp_not hk]
    refine (rdrop_not h hk hl).mono ?_
    rintro e w' ⟨rfl, rfl⟩
    exact ⟨v, rfl, h, Ch.refl _ _⟩

set_option maxHeartbeats 1000000 in
theorem rtouch_any {w : World} {D : Nat} {v : Value} {L : List Int} {k : Int} {room : Nat} (h : RI w D v L) (hnd : L.Nodup) (hl : L.length ≤ 64) (hD : D ≤ w.heap.size) :
    Calls Try.prog 11 #[v, .int .i64 k, .int .i64 (room : Int)] w fun e w' => ∃ v', e = .returned (.tuple #[v', .int .i64 (((tch room L k).2 : Nat) : Int)]) ∧ RI w' D v' (tch room L k).1 ∧ Ch [] w w' := by
  obtain ⟨i0, hI, hz0, hz1, hz2⟩ := info_parts oI.infoE
  have HD := Lib.hid (rdrop_any (k := k) h hnd hl hD)
  have H := Lib.hid h
  have HN := Lib.hid hnd
  obtain ⟨a, cap, rfl⟩ := own_form h
  obtain ⟨m, hm⟩ : ∃ m, m = L.length := ⟨_, rfl⟩
  rw [← hm] at hl HD ⊢
  have HM := Lib.hid hm
  clear h hnd hm
  go_enter Try.func11, Try.ntmps11
  by_cases hc : k ∈ L ∨ m < room
  · have HT := Lib.hid (show tch room L k = (drp L k ++ [k], 0) by unfold tch; rw [if_pos (by rw [← HM.out]; exact hc)])
    obtain ⟨b, hb⟩ : ∃ b, b = decide (k ∈ L) := ⟨_, rfl⟩
    have HBt := Lib.hid (show b = false → m < room from fun e => hc.resolve_left (by rw [hb] at e; simpa using e))
    rw [← hb] at HD
    clear hb hc
    have HDl := Lib.hid (show (drp L k).length ≤ 64 from Nat.le_trans (drp_le L k) (by rw [← HM.out]; exact hl))
    go_wp2_with fail
    with_reducible refine HD.out.mono ?_
    rintro e w1 ⟨v1, rfl, hr1, hc1⟩
    have HR1 := Lib.hid hr1
    have HC1 := Lib.hid hc1
    have hs1 := hc1.size
    obtain ⟨ln, hln⟩ : ∃ ln, ln = (drp L k).length := ⟨_, rfl⟩
    have hl2 := HDl.out
    rw [← hln] at hl2
    have HLn := Lib.hid hln
    clear hr1 hc1 hln
    cases b with
    | true =>
      go_wp2_with (at_builtin; go_must (refine wpList_append_row rfl _ _ 28 rfl w1.heap.size 3 i0 (.int .i64 0) 1 8 Try.underlying28 hI hz0 hz1 hz2 rfl (by decide) (.slice (some ⟨w1.heap.size, 0, none⟩) 0 0) 0 [] rfl ?c0 ?c1 D v1 ln (kvs (drp L k)) rfl ?c2 (kvs_one _) ?c3 ?c4 ?c5 ?_))
      case c0 => exact World.ownsRow_lit w1 #[] 0 (Nat.le_refl _) (Nat.zero_le _) rfl
      case c1 => intro e; cases e
      case c2 => rw [HLn.out]; exact HR1.out.alloc _
      case c3 => unfold maxLen; omega
      case c4 => omega
      case c5 => simp
      intro v2 w2 hown2 hgrow2 hne2
      have HC2 := Lib.hid (((Ch.refl [] w1).alloc (.cells #[] 3)).kept hgrow2 (fun r e => by cases e; exact Nat.le_refl _))
      have HO2 := Lib.hid (show w2.ownsRow w1.heap.size 3 1 v2 ln (kvs (drp L k)) by simpa using hown2)
      have hs2 := HC2.out.size
      clear hown2 hgrow2
      go_wp2_with (at_builtin; go_must (refine wpList_append_own _ rfl _ _ 28 rfl w1.heap.size 3 i0 (.int .i64 0) 1 8 Try.underlying28 hI hz0 hz1 hz2 rfl (by decide) v2 ln (kvs (drp L k)) rfl (HO2.out.alloc _) ⟨w2.heap.size, 0, none⟩ 1 1 [.int .i64 k] rfl rfl (cell_one_new _ _ _) (by simp [Value.oneCell']) (by unfold maxLen; omega) (by omega) (by simp; omega) ?_))
      intro v3 w3 hown3 hgrow3 _
      have HE := Lib.hid (show RI w3 D v3 (drp L k ++ [k]) from RI.mono (show RI w3 w1.heap.size v3 (drp L k ++ [k]) by
        unfold RI
        rw [List.length_append, ← HLn.out, kvs_app]
        exact hown3) (by omega))
      have HC3 := Lib.hid (show Ch [] w w3 from HC1.out.trans ((HC2.out.alloc _).kept hgrow3 (fun r e => (HO2.out.lt r e).1)))
      clear hown3 hgrow3
      go_wp2
      go_ret2
      rw [HT.out]
      exact ⟨_, rfl, HE.out, HC3.out⟩
    | false =>
      have hlt := HBt.out rfl
      have hd2 : decide (room ≤ m) = false := by simp; omega
      go_wp2_with (at_builtin; go_must (refine wpList_append_row rfl _ _ 28 rfl w1.heap.size 3 i0 (.int .i64 0) 1 8 Try.underlying28 hI hz0 hz1 hz2 rfl (by decide) (.slice (some ⟨w1.heap.size, 0, none⟩) 0 0) 0 [] rfl ?c0 ?c1 D v1 ln (kvs (drp L k)) rfl ?c2 (kvs_one _) ?c3 ?c4 ?c5 ?_))
      case c0 => exact World.ownsRow_lit w1 #[] 0 (Nat.le_refl _) (Nat.zero_le _) rfl
      case c1 => intro e; cases e
      case c2 => rw [HLn.out]; exact HR1.out.alloc _
      case c3 => unfold maxLen; omega
      case c4 => omega
      case c5 => simp
      intro v2 w2 hown2 hgrow2 hne2
      have HC2 := Lib.hid (((Ch.refl [] w1).alloc (.cells #[] 3)).kept hgrow2 (fun r e => by cases e; exact Nat.le_refl _))
      have HO2 := Lib.hid (show w2.ownsRow w1.heap.size 3 1 v2 ln (kvs (drp L k)) by simpa using hown2)
      have hs2 := HC2.out.size
      clear hown2 hgrow2
      go_wp2_with (at_builtin; go_must (refine wpList_append_own _ rfl _ _ 28 rfl w1.heap.size 3 i0 (.int .i64 0) 1 8 Try.underlying28 hI hz0 hz1 hz2 rfl (by decide) v2 ln (kvs (drp L k)) rfl (HO2.out.alloc _) ⟨w2.heap.size, 0, none⟩ 1 1 [.int .i64 k] rfl rfl (cell_one_new _ _ _) (by simp [Value.oneCell']) (by unfold maxLen; omega) (by omega) (by simp; omega) ?_))
      intro v3 w3 hown3 hgrow3 _
      have HE := Lib.hid (show RI w3 D v3 (drp L k ++ [k]) from RI.mono (show RI w3 w1.heap.size v3 (drp L k ++ [k]) by
        unfold RI
        rw [List.length_append, ← HLn.out, kvs_app]
        exact hown3) (by omega))
      have HC3 := Lib.hid (show Ch [] w w3 from HC1.out.trans ((HC2.out.alloc _).kept hgrow3 (fun r e => (HO2.out.lt r e).1)))
      clear hown3 hgrow3
      go_wp2
      go_ret2
      rw [HT.out]
      exact ⟨_, rfl, HE.out, HC3.out⟩
  · have HT := Lib.hid (show tch room L k = (L, 3) by unfold tch; rw [if_neg (by rw [← HM.out]; exact hc)])
    have hk : ¬ k ∈ L := fun e => hc (.inl e)
    have hlt : ¬ m < room := fun e => hc (.inr e)
    rw [decide_eq_false hk] at HD
    have hd2 : decide (room ≤ m) = true := by simp; omega
    clear hk hc
    go_wp2_with fail
    with_reducible refine HD.out.mono ?_
    rintro e w1 ⟨v1, rfl, hr1, hc1⟩
    have HC1 := Lib.hid hc1
    clear hr1 hc1
    go_wp2_with fail
    go_ret2
    rw [HT.out]
    exact ⟨.slice a m cap, rfl, by rw [HM.out]; exact H.out.quiet HC1.out, HC1.out⟩
end Go.Proofs.Ytediabcgeghogaa

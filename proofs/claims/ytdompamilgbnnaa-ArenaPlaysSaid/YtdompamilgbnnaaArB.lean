/-
  Contracts of the document's answer for layer 3: New, Put, Free.
-/
import Derived.Test.YtdompamilgbnnaaArA
namespace Go.Proofs.Ytdompamilgbnnaa
open Go.RowKit aI

attribute [local go_sem] Oper.semAt_some

theorem cells3_new (w : World) (x y z : Value) (t : TypeId) : ∀ j u, [x, y, z][j]? = some u → (w.alloc (.cells #[x, y, z] t)).cell? ((⟨w.heap.size, 0, none⟩ : Addr).add j) = some u := by
  intro j u hj
  rw [addr_add, Nat.zero_add, World.cell?_alloc_at _ _ _ _ rfl]
  match j, hj with
  | 0, hj => simpa using hj
  | 1, hj => simpa using hj
  | 2, hj => simpa using hj

theorem fresh_succ (k : Nat) : fresh (k + 1) = fresh k ++ [⟨1, false, 0⟩] := by
  unfold fresh
  rw [List.replicate_succ']
  rfl
theorem fresh_len (k : Nat) : (fresh k).length = k := by simp [fresh]

set_option maxHeartbeats 1000000 in
theorem rnew_any (n : Nat) (w : World) (h2 : n ≤ 64) :
    Calls Try.prog 10 #[.int .i64 (n : Int)] w fun e w' => ∃ v, e = .returned v ∧ RS w' w.heap.size v (fresh n) ∧ Below w.heap.size w w' := by
  obtain ⟨i0, hI, hz0, hz1, hz2⟩ := info_parts infoR
  go_enter Try.func10, Try.ntmps10
  go_wp2
  go_loopw [3, 4] (fun out i wr => ∃ (k : Nat) (v : Value), k ≤ n ∧ i = .int .i64 (k : Int) ∧ out = v ∧ wr.ownsRow w.heap.size 43 3 v k (rcs (fresh k)) ∧ Below w.heap.size w wr) (fun _ i _ => n - (intOf i).toNat)
  case atStart => exact ⟨0, _, Nat.zero_le _, rfl, rfl, World.ownsRow_nil _ _ _ _, Below.refl _ _⟩
  case round =>
    obtain ⟨k, v, hk, rfl, rfl, hO, hB⟩ := hrel
    have HO := Lib.hid hO
    have HB := Lib.hid hB
    have hbs := hB.size
    clear hO hB
    by_cases hlt : k < n
    · have HN := Lib.hid (cells3_new wr (.int .i64 1) (.bool false) (.int .i64 0) 43)
      go_wp2_with (at_builtin; go_must (refine wpList_append_own _ rfl _ _ 28 rfl w.heap.size 43 i0 (.agg #[.int .i64 0, .bool false, .int .i64 0]) 3 24 Try.underlying28 hI hz0 hz1 hz2 rfl (by decide) _ k (rcs (fresh k)) rfl (HO.out.alloc _) ⟨wr.heap.size, 0, none⟩ 1 1 [.int .i64 1, .bool false, .int .i64 0] rfl rfl HN.out (by simp [Value.oneCell']) (by unfold maxLen; omega) (by omega) (by simp; omega) ?_); intro v2 w2 hown2 hgrow2 _)
      go_roundw
      case rel =>
        refine ⟨k + 1, _, by omega, by go_num, rfl, ?_, (HB.out.alloc hbs _).grown hgrow2 (by simp; omega) (fun j e => (HO.out.lt j e).1)⟩
        rw [fresh_succ, rcs_snoc]
        exact hown2
      case measure => simp [intOf]; omega
    · obtain rfl : k = n := by omega
      go_wp2
      go_ret
      refine ⟨_, rfl, ?_, HB.out⟩
      unfold RS
      rw [fresh_len]
      exact HO.out

theorem RS.turned {w : World} {D : Nat} {xs : List (Sl Int)} {g cap : Nat} (h : RS w D (.slice (some ⟨g, 0, none⟩) xs.length cap) xs) (k : Nat) (hk : k < xs.length) (x : Int) :
    RS ((w.setCell ⟨g, k * 3 + 1, none⟩ (.bool true)).setCell ⟨g, k * 3 + 2, none⟩ (.int .i64 x)) D (.slice (some ⟨g, 0, none⟩) xs.length cap) (xs.set k ⟨(at0 xs k).gen, true, x⟩) := by
  have h1 := own_set (own_set h (k * 3 + 1) (.bool true) (by omega)) (k * 3 + 2) (.int .i64 x) (by omega)
  unfold RS
  have e := rcs_set xs k hk ⟨(at0 xs k).gen, true, x⟩
  rw [set_id (rcs xs) (k * 3) _ (rcs_at xs k hk).1] at e
  rw [List.length_set, ← e]
  exact h1
theorem RS.emptied {w : World} {D : Nat} {xs : List (Sl Int)} {g cap : Nat} (h : RS w D (.slice (some ⟨g, 0, none⟩) xs.length cap) xs) (k : Nat) (hk : k < xs.length) (ge : Nat) :
    RS (((w.setCell ⟨g, k * 3, none⟩ (.int .i64 (ge : Int))).setCell ⟨g, k * 3 + 1, none⟩ (.bool false)).setCell ⟨g, k * 3 + 2, none⟩ (.int .i64 0)) D (.slice (some ⟨g, 0, none⟩) xs.length cap) (xs.set k ⟨ge, false, 0⟩) := by
  have h1 := own_set (own_set (own_set h (k * 3) (.int .i64 (ge : Int)) (by omega)) (k * 3 + 1) (.bool false) (by omega)) (k * 3 + 2) (.int .i64 0) (by omega)
  unfold RS
  have e := rcs_set xs k hk ⟨ge, false, 0⟩
  rw [List.length_set, ← e]
  exact h1

set_option maxHeartbeats 2000000 in
theorem rput_any {w : World} {D : Nat} {v : Value} {xs : List (Sl Int)} (h : RS w D v xs) (hD : D ≤ w.heap.size) (h64 : xs.length ≤ 64) (x : Int) :
    Calls Try.prog 12 #[v, .int .i64 x] w fun e w' => ∃ v', e = .returned (.tuple #[v', .int .i64 (putS xs), .int .i64 (putG xs), .int .i64 (putE xs)]) ∧ RS w' D v' (putL xs x) ∧ Below w.heap.size w w' := by
  obtain ⟨i0, hI, hz0, hz1, hz2⟩ := info_parts infoR
  have HH := Lib.hid h
  have HOne := Lib.hid (rcs_one xs)
  clear h
  go_enter Try.func12, Try.ntmps12
  go_wp2_with (at_builtin; go_must (refine wpList_append_row rfl _ _ 28 rfl w.heap.size 43 i0 (.agg #[.int .i64 0, .bool false, .int .i64 0]) 3 24 Try.underlying28 hI hz0 hz1 hz2 rfl (by decide) (.slice (some ⟨w.heap.size, 0, none⟩) 0 0) 0 [] rfl ?c0 ?c1 D v xs.length (rcs xs) rfl ?c2 HOne.out ?c3 ?c4 ?c5 ?_))
  case c0 => exact World.ownsRow_lit w #[] 0 (Nat.le_refl _) (Nat.zero_le _) rfl
  case c1 => intro e; cases e
  case c2 => exact World.ownsRow.alloc HH.out _
  case c3 => unfold maxLen; omega
  case c4 => omega
  case c5 => simp
  intro v1 w1 hown1 hgrow1 hne1
  have hB1 : Below w.heap.size w w1 := ((Below.refl _ _).alloc (Nat.le_refl _) _).grown hgrow1 (by simp) (fun k e => by cases e; exact Nat.le_refl _)
  obtain ⟨g1, cp1, rfl⟩ := own_some hown1 hne1
  have hR1 : RS w1 w.heap.size (.slice (some ⟨g1, 0, none⟩) xs.length cp1) xs := by
    unfold RS
    simpa using hown1
  have HR1 := Lib.hid hR1
  have HB1 := Lib.hid hB1
  have hgb : w.heap.size ≤ g1 := (World.ownsRow.lt hR1 g1 rfl).1
  clear hown1 hB1 hgrow1 hne1 hR1
  go_wp2
  go_loopw [9] (fun i wr => ∃ k : Nat, k ≤ xs.length ∧ i = .int .i64 (k : Int) ∧ (∀ j, j < k → isFree (at0 xs j) = false) ∧ wr = w1) (fun i _ => xs.length - (intOf i).toNat)
  case atStart => exact ⟨0, Nat.zero_le _, rfl, fun j hj => by omega, rfl⟩
  case round =>
    obtain ⟨k, hk, rfl, hno, rfl⟩ := hrel
    have HNo := Lib.hid hno
    clear hno
    by_cases hlt : k < xs.length
    · obtain ⟨G, cap', e, _, _, c0, c1, c2, hf⟩ := HR1.out.cells hlt
      cases e
      have f1 := hf (k * 3 + 1)
      have f2 := hf (k * 3 + 2)
      clear hf
      cases hq : isFree (at0 xs k) with
      | false =>
        have HQ := Lib.hid hq
        have hcase : (at0 xs k).held = true ∨ ((at0 xs k).held = false ∧ 255 < (at0 xs k).gen) := by
          cases hb : (at0 xs k).held with
          | true => exact .inl rfl
          | false => refine .inr ⟨rfl, ?_⟩; unfold isFree at hq; rw [hb] at hq; simp at hq; omega
        have HSt : ∀ j, j < k + 1 → isFree (at0 xs j) = false := fun j hj => by
          by_cases e : j = k
          · subst e; exact hq
          · exact HNo.out j (by omega)
        have HSt := Lib.hid HSt
        rcases hcase with hb | ⟨hb, hg⟩
        · rw [hb] at c1
          clear hb hq
          go_wp2
          go_roundw
          case rel => exact ⟨k + 1, by omega, by go_num, HSt.out, trivial⟩
          case measure => simp [intOf]; omega
        · rw [hb] at c1
          have hd : decide (((at0 xs k).gen : Int) ≤ 255) = false := by simp; omega
          generalize (at0 xs k).gen = ge at *
          clear hb hq hg
          go_wp2
          go_roundw
          case rel => exact ⟨k + 1, by omega, by go_num, HSt.out, trivial⟩
          case measure => simp [intOf]; omega
      | true =>
        have hfst := firstOf_at hlt HNo.out hq
        obtain ⟨e1, e2, e3⟩ := putA_some hfst
        have HE := Lib.hid (And.intro e1 (And.intro e2 (And.intro e3 (putL_some (x := x) hfst))))
        have HT := Lib.hid (HR1.out.turned k hlt x)
        obtain ⟨hb, hg⟩ := free_held hq
        rw [hb] at c1
        have HK := Lib.hid hlt
        obtain ⟨ge, hge⟩ : ∃ ge, ge = (at0 xs k).gen := ⟨_, rfl⟩
        rw [← hge] at c0 hg
        have HG := Lib.hid hge
        have hd : decide ((ge : Int) ≤ 255) = true := by simp; omega
        have p0 := setCell_other (u := Value.int .i64 x) (setCell_other (u := Value.bool true) c0 (addr_ne_off (g := g1) (a := k * 3 + 1) (by omega))) (addr_ne_off (g := g1) (a := k * 3 + 2) (by omega))
        clear hfst e1 e2 e3 hq hb hge
        have hb0 : (0 : Int) ≤ (k : Int) := by omega
        have hb1 : (k : Int) < (xs.length : Int) := by omega
        have ht : ((k : Int)).toNat = k := rfl
        go_wp2
        go_quiet (fail)
        go_wp2
        refine bodyPost_ret (v := .tuple #[.slice (some ⟨g1, 0, none⟩) xs.length cp1, .int .i64 (k : Int), .int .i64 (ge : Int), .int .i64 0]) ?_ rfl ?_
        · simp [results, Try.f12, go_sem]
        · refine ⟨_, by rw [HE.out.1, HE.out.2.1, HE.out.2.2.1, HG.out], ?_, ?_⟩
          · rw [HE.out.2.2.2]
            exact (HT.out.ch (S := []) ((Ch.refl _ _).drewN _) (by simp)).mono hD
          · exact below_drewN ((HB1.out.setCell (p := ⟨g1, k * 3 + 1, none⟩) hgb _).setCell (p := ⟨g1, k * 3 + 2, none⟩) hgb _) _
    · obtain rfl : k = xs.length := by omega
      have hnone := firstOf_out (xs := xs) HNo.out
      obtain ⟨e1, e2, e3⟩ := putA_none hnone
      have HE := Lib.hid (And.intro e1 (And.intro e2 (And.intro e3 (putL_none (x := x) hnone))))
      clear e1 e2 e3 hnone
      go_wp2
      refine bodyPost_ret (v := .tuple #[.slice (some ⟨g1, 0, none⟩) xs.length cp1, .int .i64 0, .int .i64 0, .int .i64 3]) ?_ rfl ?_
      · simp [results, Try.f12, go_sem]
      · refine ⟨_, by rw [HE.out.1, HE.out.2.1, HE.out.2.2.1], ?_, HB1.out⟩
        rw [HE.out.2.2.2]
        exact HR1.out.mono hD
end Go.Proofs.Ytdompamilgbnnaa

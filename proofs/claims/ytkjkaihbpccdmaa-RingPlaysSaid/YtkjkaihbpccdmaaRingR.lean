/-
  Contracts of the document's answer for layer 2: Take.
-/
import Derived.Deep.RegionLaw
import Derived.Test.YtkjkaihbpccdmaaRIK
namespace Go.Proofs.Ytkjkaihbpccdmaa
open Go.RowKit rI

attribute [local go_sem] Oper.semAt_some

/-- append to a row of the call's own, as one step of a region that draws. -/
theorem step_append_own {P : Program} {w : World} {ops : Array Oper} {o : Oper} {a : Act} {K : Act → World → Prop} {Q : Exit → Act → World → Prop} {E : Prop} (hgd : o.guard = none) (s x : Operand) (t : TypeId)
    (ho : o.op = .call { callee := .builtin .append, args := #[s, x], argTypes := #[t, t] })
    (base : Nat) (e : TypeId) (i : TypeInfo) (z : Value) (size bytes : Nat) (ht : P.underlying t = some (.slice e)) (hi : P.info? e = some i) (hz : i.zero = some z)
    (hsize : i.size = size) (hby : i.bytes = bytes) (hzs : z.cells.size = size) (hsz : 0 < size)
    (v : Value) (n : Nat) (xs : List Value) (hs : a.eval s = v) (hown : w.ownsRow base e size v n xs)
    (ad : Addr) (m c : Nat) (news : List Value) (hx : a.eval x = .slice (some ad) m c) (hl : news.length = m * size) (hnews : ∀ j u, news[j]? = some u → w.cell? (ad.add j) = some u) (h1 : ∀ u ∈ news, u.oneCell' = true)
    (h63 : n + m ≤ maxLen) (hbytes : (n + m) * bytes ≤ 140737488355328) (hbase : base ≤ w.heap.size)
    (h : ∀ v' w', w'.ownsRow base e size v' (n + m) (xs ++ news) → w.grownBy w' v.ownBlock → (v' = .slice none 0 0 ↔ v = .slice none 0 0 ∧ m = 0) → K (a.put o.dst v') w') :
    if Region.wanted o (yielded ops a.tmps) = true then Oper.wp P o a w K Q else E := by
  have hw : Region.wanted o (yielded ops a.tmps) = true := by simp [Region.wanted, hgd]
  rw [if_pos hw]
  exact wp_append_own w s x t ho base e i z size bytes ht hi hz hsize hby hzs hsz v n xs hs hown ad m c news hx hl hnews h1 h63 hbytes hbase h

theorem own_mono {w : World} {b b' e s : Nat} {v : Value} {n : Nat} {xs : List Value} (h : w.ownsRow b e s v n xs) (hb : b' ≤ b) : w.ownsRow b' e s v n xs := by
  obtain ⟨h1, h2⟩ := h
  refine ⟨h1, ?_⟩
  rcases h2 with h2 | ⟨g, cap, cur, hv, hg, r⟩
  · exact .inl h2
  · exact .inr ⟨g, cap, cur, hv, by omega, r⟩
theorem own_ch {w w' : World} {S : List Nat} {b e s : Nat} {v : Value} {n : Nat} {xs : List Value} (h : w.ownsRow b e s v n xs) (hc : Ch S w w') (hS : ∀ k ∈ S, k < b) : w'.ownsRow b e s v n xs := by
  obtain ⟨h1, h2⟩ := h
  refine ⟨h1, ?_⟩
  rcases h2 with h2 | ⟨g, cap, cur, rfl, hb, hg, r⟩
  · exact .inl h2
  · exact .inr ⟨g, cap, cur, rfl, hb, (hc.block g (Array.getElem?_eq_some_iff.1 hg).1 (fun hm => by have := hS g hm; omega)).trans hg, r⟩

theorem add_at (g a j : Nat) : (⟨g, a, none⟩ : Addr).add j = ⟨g, a + j, none⟩ := by
  unfold Addr.add
  split <;> simp_all

theorem rtake_out (v : Value) (a : Option Addr) (cap n : Nat) (hv : v = .slice a n cap) (i : Int) (hi : i < 0 ∨ (n : Int) ≤ i) (w : World) :
    Calls Try.prog 11 #[v, .int .i64 i] w fun e w' => e = .returned (.tuple #[v, .int .i64 0, .bool false]) ∧ w = w' := by
  subst hv
  by_cases h0 : i < 0
  · have hd1 : decide (i < 0) = true := by simpa using h0
    clear hi
    go_enter Try.func11, Try.ntmps11
    go_wp2
    go_ret3
    exact ⟨rfl, rfl⟩
  · have h1 : (n : Int) ≤ i := by omega
    have hd1 : decide (i < 0) = false := by simpa using h0
    have hd2 : decide ((n : Int) ≤ i) = true := by simpa using h1
    clear hi
    go_enter Try.func11, Try.ntmps11
    go_wp2
    go_ret3
    exact ⟨rfl, rfl⟩

theorem fin_own {w : World} {S n i : Nat} {v : Value} {xs : List Int} (hn : n + 1 = xs.length) (hi : i ≤ n) (h : w.ownsRow S 3 1 v (i + (n - i)) (ivs (xs.take i) ++ ivs (xs.drop (i + 1)))) :
    w.ownsRow S 3 1 v (xs.eraseIdx i).length (ivs (xs.eraseIdx i)) := by
  have e : ivs (xs.take i) ++ ivs (xs.drop (i + 1)) = ivs (xs.eraseIdx i) := by
    rw [List.eraseIdx_eq_take_drop_succ]; simp [ivs]
  have e2 : (xs.eraseIdx i).length = i + (n - i) := by rw [List.length_eraseIdx, if_pos (by omega)]; omega
  rw [e2, ← e]
  exact h

theorem fin_own0 {w : World} {S i : Nat} {v : Value} {xs : List Int} (hn : i + 1 = xs.length) (h : w.ownsRow S 3 1 v (i + 0) (ivs (xs.take i) ++ [])) :
    w.ownsRow S 3 1 v (xs.eraseIdx i).length (ivs (xs.eraseIdx i)) := by
  have e : xs.take i = xs.eraseIdx i := by
    rw [List.eraseIdx_eq_take_drop_succ, List.drop_of_length_le (by omega), List.append_nil]
  have e2 : (xs.eraseIdx i).length = i + 0 := by rw [List.length_eraseIdx, if_pos (by omega)]; omega
  rw [e2, ← e]
  simpa using h

set_option maxHeartbeats 1000000 in
theorem rtake_in {w : World} {S : Nat} {v : Value} {xs : List Int} (h : w.ownsRow S 3 1 v xs.length (ivs xs)) (h256 : xs.length ≤ 256) (i : Nat) (hi : i < xs.length) :
    Calls Try.prog 11 #[v, .int .i64 (i : Int)] w fun e w' => ∃ v', e = .returned (.tuple #[v', .int .i64 (xs[i]?.getD 0), .bool true]) ∧
      w'.ownsRow w.heap.size 3 1 v' (xs.eraseIdx i).length (ivs (xs.eraseIdx i)) ∧ Below w.heap.size w w' := by
  obtain ⟨i0, hI, hz0, hz1, hz2⟩ := info_parts infoE
  obtain ⟨n, hn⟩ : ∃ n, n + 1 = xs.length := ⟨xs.length - 1, by omega⟩
  rw [← hn] at h h256 hi
  obtain ⟨g, cap, rfl⟩ := ownsRow_succ h
  obtain ⟨hg1, hg2⟩ := h.lt g rfl
  have hcap : n + 1 ≤ cap ∧ cap ≤ maxLen := by
    rcases h.2 with ⟨h', _⟩ | ⟨g', cap', cur, h', _, _, h3, h4, _⟩
    · simp at h'
    · cases h'; exact ⟨h3, h4⟩
  obtain ⟨hc1, hc2⟩ := hcap
  unfold maxLen at hc2
  have hcell : ∀ j, j < n + 1 → w.cell? ⟨g, j, none⟩ = some (.int .i64 (xs[j]?.getD 0)) := fun j hj => by
    rw [World.ownsRow.cellAt h j (by omega)]
    simp [ivs, show j < xs.length by omega]
  have hci := hcell i hi
  have HC := Lib.hid hcell
  have HN := Lib.hid hn
  obtain ⟨x, hx⟩ : ∃ x, x = xs[i]?.getD 0 := ⟨_, rfl⟩
  rw [← hx] at hci ⊢
  clear hx h hn hcell
  have hd1 : decide ((i : Int) < 0) = false := by simp
  have hd2 : decide (((n : Int) + 1) ≤ (i : Int)) = false := by simp; omega
  have hi2 : i ≤ n := by omega
  by_cases hc : cap = i + 1
  · obtain rfl : i = n := by omega
    subst hc
    go_enter Try.func11, Try.ntmps11
    go_wp2_with (at_builtin; go_must (refine wpList_append_own _ rfl _ _ 28 rfl w.heap.size 3 i0 (.int .i64 0) 1 8 Try.underlying28 hI hz0 hz1 hz2 rfl (by decide) (.slice (some ⟨w.heap.size, 0, none⟩) 0 0) 0 [] rfl ?c0 ⟨g, 0, none⟩ i (i + 1) (ivs (xs.take i)) rfl ?c1 ?c2 ?c3 ?c4 ?c5 ?c6 ?_))
    case c0 => exact World.ownsRow_lit w #[] 0 (Nat.le_refl _) (Nat.zero_le _) rfl
    case c1 => simp [ivs, ← HN.out]
    case c2 =>
      intro j u hu
      have hj : j < i := by
        have := (List.getElem?_eq_some_iff.1 hu).1
        simp [ivs] at this
        omega
      rw [add_at, Nat.zero_add, World.cell?_alloc_past _ _ _ hg2, HC.out j (by omega), ← hu]
      have hjl : j < xs.length := by rw [← HN.out]; omega
      simp [ivs, hj, hjl]
    case c3 => intro u hu; obtain ⟨b, _, rfl⟩ := List.mem_map.1 hu; rfl
    case c4 => unfold maxLen; omega
    case c5 => omega
    case c6 => simp
    intro v1 w1 hown1 hgrow1 hnil
    have hB1 : Below w.heap.size w w1 := ((Below.refl _ _).alloc (Nat.le_refl _) _).grown hgrow1 (by simp) (fun k e => by cases e; exact Nat.le_refl _)
    have hC1 : ∀ j, j < i + 1 → w1.cell? ⟨g, j, none⟩ = some (.int .i64 (xs[j]?.getD 0)) := fun j hj => (hB1.cell (p := ⟨g, j, none⟩) hg2).trans (HC.out j hj)
    have hci1 : w1.cell? ⟨g, i, none⟩ = some (.int .i64 x) := (hB1.cell (p := ⟨g, i, none⟩) hg2).trans hci
    have hNW : ∀ (j : Nat) (u : Value), ([] : List Value)[j]? = some u → w1.cell? ((⟨g, 0, none⟩ : Addr).add j) = some u := by intro j u hu; simp at hu
    have hlen : ([] : List Value).length = 0 * 1 := rfl
    have hone : ∀ u ∈ ([] : List Value), u.oneCell' = true := by intro u hu; cases hu
    have hne : some g ≠ v1.ownBlock := by
      intro e
      have := (hown1.lt g e.symm).1
      omega
    have HOwn1 := Lib.hid hown1
    have HB1 := Lib.hid hB1
    have HNW := Lib.hid hNW
    have HOne := Lib.hid hone
    have HLen := Lib.hid hlen
    have HC1 := Lib.hid hci1
    clear hci hc2 hown1 hC1 hNW hone hlen hgrow1 hnil hB1
    have hs1 := HB1.out.size
    have hm1 : i + 0 ≤ maxLen := by unfold maxLen; omega
    have hm2 : (i + 0) * 8 ≤ 140737488355328 := by omega
    have hfar : some (⟨g, i, none⟩ : Addr).block ≠ v1.ownBlock := hne
    have hge : (0 : Int) ≤ (i : Int) + 1 := by omega
    have hlt3 : (i : Int) < (i : Int) + 1 := by omega
    have htn : ((i : Int) + 1).toNat = i + 1 := by omega
    have hsum : IntKind.i64.wrap ((i : Int) + 1) = (i : Int) + 1 := IntWalk.i64_in _ (by omega)
    go_wp2
    go_region_law ((refine step_append_own rfl (.tmp 22) (.tmp 26) 28 rfl w.heap.size 3 i0 (.int .i64 0) 1 8 Try.underlying28 hI hz0 hz1 hz2 rfl (by decide) v1 i (ivs (xs.take i)) (by simp [Act.eval, Act.put]) HOwn1.out ⟨g, 0, none⟩ 0 0 [] (by simp [Act.eval, Act.put]) HLen.out HNW.out HOne.out hm1 hm2 hs1 ?_); intro v2 w2 hown2 hgrow2 hnil2; have hci2 := hgrow2.cell hci1 hfar)
    all_goals
      go_wp2
      go_ret3
      exact ⟨v2, rfl, fin_own0 HN.out hown2, HB1.out.drew.grown hgrow2 hs1 (fun k e => (HOwn1.out.lt k e).1)⟩
  · go_enter Try.func11, Try.ntmps11
    go_wp2_with (at_builtin; go_must (refine wpList_append_own _ rfl _ _ 28 rfl w.heap.size 3 i0 (.int .i64 0) 1 8 Try.underlying28 hI hz0 hz1 hz2 rfl (by decide) (.slice (some ⟨w.heap.size, 0, none⟩) 0 0) 0 [] rfl ?c0 ⟨g, 0, none⟩ i cap (ivs (xs.take i)) rfl ?c1 ?c2 ?c3 ?c4 ?c5 ?c6 ?_))
    case c0 => exact World.ownsRow_lit w #[] 0 (Nat.le_refl _) (Nat.zero_le _) rfl
    case c1 => simp [ivs, ← HN.out]; omega
    case c2 =>
      intro j u hu
      have hj : j < i := by
        have := (List.getElem?_eq_some_iff.1 hu).1
        simp [ivs] at this
        omega
      rw [add_at, Nat.zero_add, World.cell?_alloc_past _ _ _ hg2, HC.out j (by omega), ← hu]
      have hjl : j < xs.length := by rw [← HN.out]; omega
      simp [ivs, hj, hjl]
    case c3 => intro u hu; obtain ⟨b, _, rfl⟩ := List.mem_map.1 hu; rfl
    case c4 => unfold maxLen; omega
    case c5 => omega
    case c6 => simp
    intro v1 w1 hown1 hgrow1 hnil
    have hB1 : Below w.heap.size w w1 := ((Below.refl _ _).alloc (Nat.le_refl _) _).grown hgrow1 (by simp) (fun k e => by cases e; exact Nat.le_refl _)
    have hC1 : ∀ j, j < n + 1 → w1.cell? ⟨g, j, none⟩ = some (.int .i64 (xs[j]?.getD 0)) := fun j hj => (hB1.cell (p := ⟨g, j, none⟩) hg2).trans (HC.out j hj)
    have hci1 : w1.cell? ⟨g, i, none⟩ = some (.int .i64 x) := (hB1.cell (p := ⟨g, i, none⟩) hg2).trans hci
    have hNW : ∀ j u, (ivs (xs.drop (i + 1)))[j]? = some u → w1.cell? ((⟨g, i + 1, none⟩ : Addr).add j) = some u := by
      intro j u hu
      have hj := (List.getElem?_eq_some_iff.1 hu).1
      simp [ivs] at hj
      have hjl : i + 1 + j < xs.length := by omega
      rw [add_at, hC1 (i + 1 + j) (by rw [HN.out]; exact hjl), ← hu]
      simp [ivs, hjl]
    have hlen : (ivs (xs.drop (i + 1))).length = (n - i) * 1 := by simp [ivs, ← HN.out]
    have hone : ∀ u ∈ ivs (xs.drop (i + 1)), u.oneCell' = true := by intro u hu; obtain ⟨b, _, rfl⟩ := List.mem_map.1 hu; rfl
    have hne : some g ≠ v1.ownBlock := by
      intro e
      have := (hown1.lt g e.symm).1
      omega
    have HOwn1 := Lib.hid hown1
    have HB1 := Lib.hid hB1
    have HNW := Lib.hid hNW
    have HOne := Lib.hid hone
    have HLen := Lib.hid hlen
    have HC1 := Lib.hid hci1
    clear hci hown1 hC1 hNW hone hlen hgrow1 hnil hB1
    have hs1 := HB1.out.size
    have hm1 : i + (n - i) ≤ maxLen := by unfold maxLen; omega
    have hm2 : (i + (n - i)) * 8 ≤ 140737488355328 := by omega
    have hfar : some (⟨g, i, none⟩ : Addr).block ≠ v1.ownBlock := hne
    have hge : (0 : Int) ≤ (i : Int) + 1 := by omega
    have hle : (i : Int) + 1 ≤ (n : Int) + 1 := by omega
    have hlt3 : (i : Int) < (n : Int) + 1 := by omega
    have htn : ((i : Int) + 1).toNat = i + 1 := by omega
    have hsum : IntKind.i64.wrap ((i : Int) + 1) = (i : Int) + 1 := IntWalk.i64_in _ (by omega)
    go_wp2
    go_region_law ((refine step_append_own rfl (.tmp 22) (.tmp 26) 28 rfl w.heap.size 3 i0 (.int .i64 0) 1 8 Try.underlying28 hI hz0 hz1 hz2 rfl (by decide) v1 i (ivs (xs.take i)) (by simp [Act.eval, Act.put]) HOwn1.out ⟨g, i + 1, none⟩ (n - i) (cap - (i + 1)) (ivs (xs.drop (i + 1))) (by simp [Act.eval, Act.put]) HLen.out HNW.out HOne.out hm1 hm2 hs1 ?_); intro v2 w2 hown2 hgrow2 hnil2; have hci2 := hgrow2.cell hci1 hfar)
    all_goals
      go_wp2
      go_ret3
      exact ⟨v2, rfl, fin_own HN.out hi2 hown2, HB1.out.drew.grown hgrow2 hs1 (fun k e => (HOwn1.out.lt k e).1)⟩
end Go.Proofs.Ytkjkaihbpccdmaa

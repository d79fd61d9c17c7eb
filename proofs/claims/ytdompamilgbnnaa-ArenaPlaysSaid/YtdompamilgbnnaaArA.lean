/-
  Contracts of the document's answer for layer 3: New, Find, Put, Free, Count.
-/
import Derived.Laws.OwnMore
import Derived.Laws.AppendOwnNone
import Derived.Laws.MakeOwn
import Derived.OwnWalk
import Derived.Deep.RegionLaw
import Derived.Test.YtdompamilgbnnaaAR
import Derived.Test.YtdompamilgbnnaaAL
import Derived.Test.YtdompamilgbnnaaAIN
namespace Go.Proofs.Ytdompamilgbnnaa
open Go.RowKit

attribute [local go_sem] Oper.semAt_some

theorem own_some {w : World} {B e s : Nat} {v : Value} {n : Nat} {xs : List Value} (h : w.ownsRow B e s v n xs) (hne : v ≠ .slice none 0 0) : ∃ g cp, v = .slice (some ⟨g, 0, none⟩) n cp := by
  rcases h.2 with ⟨rfl, _⟩ | ⟨g, cp, cur, rfl, _⟩
  · exact absurd rfl hne
  · exact ⟨g, cp, rfl⟩
theorem own_form {w : World} {B e s : Nat} {v : Value} {n : Nat} {xs : List Value} (h : w.ownsRow B e s v n xs) : ∃ a cap, v = .slice a n cap := by
  rcases h.2 with ⟨rfl, rfl⟩ | ⟨g, cp, cur, rfl, _⟩
  · exact ⟨_, _, rfl⟩
  · exact ⟨_, _, rfl⟩
/-- A row with one cell turned. -/
theorem own_set {w : World} {B e s g cp n : Nat} {xs : List Value} (h : w.ownsRow B e s (.slice (some ⟨g, 0, none⟩) n cp) n xs) (j : Nat) (u : Value) (_ : j < n * s) :
    (w.setCell ⟨g, j, none⟩ u).ownsRow B e s (.slice (some ⟨g, 0, none⟩) n cp) n (xs.set j u) := by
  obtain ⟨h1, h2⟩ := h
  rcases h2 with ⟨h2, _⟩ | ⟨g', cap', cur, h2, hb, hg, hn, hc, hs, hx⟩
  · cases h2
  · cases h2
    refine ⟨by simpa using h1, .inr ⟨g, cp, cur.setIfInBounds j u, rfl, hb, ?_, hn, hc, by simpa using hs, ?_⟩⟩
    · obtain ⟨hlt, hk⟩ := Array.getElem?_eq_some_iff.1 hg
      show (w.heap.modify g _)[g]? = _
      rw [Array.getElem?_eq_getElem (by rw [Array.size_modify]; exact hlt), Array.getElem_modify_self, hk]
      rfl
    · rw [← hx, Array.toList_setIfInBounds, List.take_set]

/-- append of a row that may be nil to a row of the call's own. -/
theorem wpList_append_row {P : Program} {w : World} {ops : Array Oper} {rest : List Oper} {o : Oper} {a : Act} {Q : Exit → Act → World → Prop} (hgd : o.guard = none) (s x : Operand) (t : TypeId)
    (ho : o.op = .call { callee := .builtin .append, args := #[s, x], argTypes := #[t, t] })
    (base : Nat) (e : TypeId) (i : TypeInfo) (z : Value) (size bytes : Nat) (ht : P.underlying t = some (.slice e)) (hi : P.info? e = some i) (hz : i.zero = some z)
    (hsize : i.size = size) (hby : i.bytes = bytes) (hzs : z.cells.size = size) (hsz : 0 < size)
    (v : Value) (n : Nat) (xs : List Value) (hs : a.eval s = v) (hown : w.ownsRow base e size v n xs) (hne : v ≠ .slice none 0 0)
    (S : Nat) (vx : Value) (m : Nat) (news : List Value) (hx : a.eval x = vx) (hsrc : w.ownsRow S e size vx m news) (h1 : ∀ u ∈ news, u.oneCell' = true)
    (h63 : n + m ≤ maxLen) (hbytes : (n + m) * bytes ≤ 140737488355328) (hbase : base ≤ w.heap.size)
    (h : ∀ v' w', w'.ownsRow base e size v' (n + m) (xs ++ news) → w.grownBy w' v.ownBlock → v' ≠ .slice none 0 0 → wpList P ops Q rest (a.put o.dst v') w') : wpList P ops Q (o :: rest) a w := by
  have hl := hsrc.1
  rcases hsrc.2 with ⟨rfl, rfl⟩ | ⟨g, cp, cur, rfl, _⟩
  · obtain rfl : news = [] := List.eq_nil_of_length_eq_zero (by simpa using hl)
    refine wpList_append_own_none hgd s x t ho base e i size ht hi v n xs hs hown hx (h v w (by simpa using hown) ⟨rfl, rfl, rfl, Nat.le_refl _, fun _ _ _ => rfl⟩ hne)
  · exact wpList_append_own w hgd s x t ho base e i z size bytes ht hi hz hsize hby hzs hsz v n xs hs hown ⟨g, 0, none⟩ m cp news hx hl (hsrc.cells rfl) h1 h63 hbytes hbase
      (fun v' w' h2 h3 h4 => h v' w' h2 h3 (fun e => hne (h4.1 e).1))

theorem infoR : (Try.prog.info? 43).map (fun i => (i.zero, i.size, i.bytes)) = some (some (.agg #[.int .i64 0, .bool false, .int .i64 0]), 3, 24) := by kernel_rfl

/-- The slots as the document's answer keeps them. -/
def rcs (xs : List (Sl Int)) : List Value := xs.flatMap fun s => [.int .i64 (s.gen : Int), .bool s.held, .int .i64 s.x]
theorem rcs_cons (s : Sl Int) (t : List (Sl Int)) : rcs (s :: t) = .int .i64 (s.gen : Int) :: .bool s.held :: .int .i64 s.x :: rcs t := by simp [rcs]
theorem rcs_snoc (t : List (Sl Int)) (s : Sl Int) : rcs (t ++ [s]) = rcs t ++ [.int .i64 (s.gen : Int), .bool s.held, .int .i64 s.x] := by simp [rcs]
theorem rcs_at (xs : List (Sl Int)) (k : Nat) (h : k < xs.length) : (rcs xs)[k * 3]? = some (.int .i64 ((at0 xs k).gen : Int)) ∧ (rcs xs)[k * 3 + 1]? = some (.bool (at0 xs k).held) ∧ (rcs xs)[k * 3 + 2]? = some (.int .i64 (at0 xs k).x) := by
  induction xs generalizing k with
  | nil => simp at h
  | cons s t ih =>
    rw [rcs_cons]
    cases k with
    | zero => simp [at0]
    | succ k =>
      have := ih k (by simpa using h)
      have e : at0 (s :: t) (k + 1) = at0 t k := by simp [at0]
      rw [e, show (k + 1) * 3 = k * 3 + 3 by omega]
      simpa using this
theorem rcs_set (xs : List (Sl Int)) (k : Nat) (hk : k < xs.length) (s : Sl Int) : (((rcs xs).set (k * 3) (.int .i64 (s.gen : Int))).set (k * 3 + 1) (.bool s.held)).set (k * 3 + 2) (.int .i64 s.x) = rcs (xs.set k s) := by
  induction xs generalizing k with
  | nil => simp_all
  | cons t r ih =>
    rw [rcs_cons]
    cases k with
    | zero => simp [rcs_cons]
    | succ k =>
      rw [show (k + 1) * 3 = k * 3 + 3 by omega]
      simp only [List.set_cons_succ, rcs_cons]
      rw [ih k (by simpa using hk)]
theorem rcs_one (xs : List (Sl Int)) : ∀ u ∈ rcs xs, u.oneCell' = true := by
  intro u hu
  simp only [rcs, List.mem_flatMap] at hu
  obtain ⟨s, _, hs⟩ := hu
  simp at hs
  rcases hs with rfl | rfl | rfl <;> rfl
theorem set_id {α : Type} (l : List α) (k : Nat) (v : α) (h : l[k]? = some v) : l.set k v = l := by
  apply List.ext_getElem? 
  intro i
  by_cases e : k = i
  · subst e
    have hk : k < l.length := (List.getElem?_eq_some_iff.1 h).1
    rw [List.getElem?_set_self hk, h]
  · rw [List.getElem?_set_ne e]

/-- A list of slots, of the call's own from D on. -/
def RS (w : World) (D : Nat) (v : Value) (xs : List (Sl Int)) : Prop := w.ownsRow D 43 3 v xs.length (rcs xs)
theorem RS.ch {w w' : World} {S : List Nat} {D : Nat} {v : Value} {xs : List (Sl Int)} (h : RS w D v xs) (hc : Ch S w w') (hS : ∀ k ∈ S, k < D) : RS w' D v xs := own_ch h hc hS
theorem RS.mono {w : World} {D D' : Nat} {v : Value} {xs : List (Sl Int)} (h : RS w D v xs) (hD : D' ≤ D) : RS w D' v xs := own_mono h hD
theorem RS.cells {w : World} {D : Nat} {v : Value} {xs : List (Sl Int)} (h : RS w D v xs) {k : Nat} (hk : k < xs.length) : ∃ g cap, v = .slice (some ⟨g, 0, none⟩) xs.length cap ∧ D ≤ g ∧ g < w.heap.size ∧
    w.cell? ⟨g, k * 3, none⟩ = some (.int .i64 ((at0 xs k).gen : Int)) ∧ w.cell? ⟨g, k * 3 + 1, none⟩ = some (.bool (at0 xs k).held) ∧ w.cell? ⟨g, k * 3 + 2, none⟩ = some (.int .i64 (at0 xs k).x) ∧ ∀ o, w.frozen? ⟨g, o, none⟩ = false := by
  rcases h.2 with ⟨_, h0⟩ | ⟨g, cap, cur, rfl, hb, hg, _⟩
  · omega
  · obtain ⟨h1, h2, h3⟩ := rcs_at xs k hk
    refine ⟨g, cap, rfl, hb, (Array.getElem?_eq_some_iff.1 hg).1, ?_, ?_, ?_, fun o => World.ownsRow.frozenAt h o⟩
    · rw [World.ownsRow.cellAt h (k * 3) (by omega)]; exact h1
    · rw [World.ownsRow.cellAt h (k * 3 + 1) (by omega)]; exact h2
    · rw [World.ownsRow.cellAt h (k * 3 + 2) (by omega)]; exact h3

theorem rfind_any {w : World} {D : Nat} {v : Value} {xs : List (Sl Int)} (h : RS w D v xs) (s g : Int) :
    Calls Try.prog 11 #[v, .int .i64 s, .int .i64 g] w fun e w' => e = .returned (.int .i64 (findE xs s g)) ∧ w = w' := by
  by_cases hr : s < 0 ∨ (xs.length : Int) ≤ s
  · rw [findE_range hr]
    obtain ⟨a, cap, rfl⟩ := own_form h
    generalize xs.length = n at *
    by_cases h0 : s < 0
    · have hd1 : decide (s < 0) = true := by simpa using h0
      clear hr
      go_enter Try.func11, Try.ntmps11
      go_wp2
      go_ret
      exact ⟨rfl, rfl⟩
    · have h1 : (n : Int) ≤ s := by omega
      have hd1 : decide (s < 0) = false := by simpa using h0
      have hd2 : decide ((n : Int) ≤ s) = true := by simpa using h1
      clear hr
      go_enter Try.func11, Try.ntmps11
      go_wp2
      go_ret
      exact ⟨rfl, rfl⟩
  · obtain ⟨k, rfl⟩ : ∃ k : Nat, s = (k : Int) := ⟨s.toNat, by omega⟩
    have hk : k < xs.length := by omega
    obtain ⟨G, cap, rfl, _, _, c0, c1, _, _⟩ := h.cells hk
    have hd1 : decide ((k : Int) < 0) = false := by simp
    have hd2 : decide ((xs.length : Int) ≤ (k : Int)) = false := by simp; omega
    by_cases hh : (at0 xs k).held = true ∧ ((at0 xs k).gen : Int) = g
    · rw [findE_ok hk hh.1 hh.2]
      obtain ⟨hh, rfl⟩ := hh
      rw [hh] at c1
      clear hr h
      generalize (at0 xs k).gen = ge at *
      have hdg : ((ge : Int) != (ge : Int)) = false := by simp
      go_enter Try.func11, Try.ntmps11
      go_wp2
      go_ret
      exact ⟨rfl, rfl⟩
    · rw [findE_stale hk hh]
      clear hr h
      cases hb : (at0 xs k).held with
      | false =>
        rw [hb] at c1
        clear hb hh
        go_enter Try.func11, Try.ntmps11
        go_wp2
        go_ret
        exact ⟨rfl, rfl⟩
      | true =>
        rw [hb] at c1 hh
        have hg : ¬ ((at0 xs k).gen : Int) = g := fun e => hh ⟨rfl, e⟩
        generalize (at0 xs k).gen = ge at *
        have hdg : ((ge : Int) != g) = true := by simpa using hg
        have hdg2 : ((ge : Int) == g) = false := by simpa using hg
        clear hb hh
        go_enter Try.func11, Try.ntmps11
        go_wp2
        go_ret
        exact ⟨rfl, rfl⟩

set_option maxHeartbeats 1000000 in
theorem rcount_any {w : World} {D : Nat} {v : Value} {xs : List (Sl Int)} (h : RS w D v xs) (h64 : xs.length ≤ 64) :
    Calls Try.prog 18 #[v] w fun e w' => e = .returned (.tuple #[.int .i64 ((sel xs isHeld).length : Int), .int .i64 ((sel xs isFree).length : Int)]) ∧ w = w' := by
  obtain ⟨a, cap, rfl⟩ := own_form h
  have HR := Lib.hid h
  clear h
  go_enter Try.func18, Try.ntmps18
  go_wp2
  go_loopw [4, 5, 6] (fun p q i wr => ∃ k : Nat, k ≤ xs.length ∧ p = .int .i64 ((selTo xs isHeld k).length : Int) ∧ q = .int .i64 ((selTo xs isFree k).length : Int) ∧ i = .int .i64 (k : Int) ∧ wr = w) (fun _ _ i _ => xs.length - (intOf i).toNat)
  case atStart => exact ⟨0, Nat.zero_le _, rfl, rfl, rfl, rfl⟩
  case round =>
    obtain ⟨k, hk, rfl, rfl, rfl, rfl⟩ := hrel
    by_cases hlt : k < xs.length
    · obtain ⟨G, cap', e, _, _, c0, c1, _, _⟩ := HR.out.cells hlt
      cases e
      have l1 := selTo_len xs isHeld k
      have l2 := selTo_len xs isFree k
      cases hb : (at0 xs k).held with
      | true =>
        have e1 := Lib.hid (selTo_yes xs isHeld k hb)
        have e2 := Lib.hid (selTo_no xs isFree k (by simp [isFree, hb]))
        rw [hb] at c1
        clear hb
        go_wp2
        go_roundw
        case rel => exact ⟨k + 1, by omega, by rw [e1.out]; simp, by rw [e2.out], by go_num, trivial⟩
        case measure => simp [intOf]; omega
      | false =>
        have e1 := Lib.hid (selTo_no xs isHeld k hb)
        rw [hb] at c1
        by_cases hg : (at0 xs k).gen ≤ 255
        · have e2 := Lib.hid (selTo_yes xs isFree k (by simp [isFree, hb]; omega))
          have hd : decide (((at0 xs k).gen : Int) ≤ 255) = true := by simp; omega
          generalize (at0 xs k).gen = ge at *
          clear hb hg
          go_wp2
          go_roundw
          case rel => exact ⟨k + 1, by omega, by rw [e1.out], by rw [e2.out]; simp, by go_num, trivial⟩
          case measure => simp [intOf]; omega
        · have e2 := Lib.hid (selTo_no xs isFree k (by simp [isFree, hb]; omega))
          have hd : decide (((at0 xs k).gen : Int) ≤ 255) = false := by simp; omega
          generalize (at0 xs k).gen = ge at *
          clear hb hg
          go_wp2
          go_roundw
          case rel => exact ⟨k + 1, by omega, by rw [e1.out], by rw [e2.out], by go_num, trivial⟩
          case measure => simp [intOf]; omega
    · obtain rfl : k = xs.length := by omega
      go_wp2
      go_ret2
      exact ⟨rfl, rfl⟩
end Go.Proofs.Ytdompamilgbnnaa

/-
  Bring, Evict, Break; Poke, Peek.
-/
import Derived.Test.YtcdolkbljheniaaUsB
import Derived.Laws.IdiomCopy
namespace Go.Proofs.Ytcdolkbljheniaa
open Go.RowKit

/-- Bytes in memory, one behind the other. -/
def BytesAt (w : World) (a : Option Addr) (l : List Int) : Prop := l = [] ∨ ∃ b off, a = some ⟨b, off, none⟩ ∧ ∀ i (hi : i < l.length), w.cell? ⟨b, off + i, none⟩ = some (.int .u8 l[i])
theorem BytesAt.ch {w w' : World} {S : List Nat} {a : Option Addr} {l : List Int} (h : BytesAt w a l) (hc : Ch S w w') (hS : ∀ y, a = some y → y.block ∉ S) : BytesAt w' a l := by
  rcases h with rfl | ⟨b, off, rfl, hk⟩
  · exact .inl rfl
  · refine .inr ⟨b, off, rfl, fun i hi => ?_⟩
    have h1 := hk i hi
    exact (hc.cell (p := ⟨b, off + i, none⟩) (cell_lt h1) (hS ⟨b, off, none⟩ rfl)).trans h1
theorem BytesAt.take {w : World} {a : Option Addr} {l : List Int} (h : BytesAt w a l) (k : Nat) : BytesAt w a (l.take k) := by
  rcases h with rfl | ⟨b, off, rfl, hk⟩
  · exact .inl (by simp)
  · refine .inr ⟨b, off, rfl, fun i hi => ?_⟩
    rw [List.length_take] at hi
    rw [hk i (by omega), List.getElem_take]

theorem turn0_any {w : World} {b : Nat} {x : MS} (h : UM w b x) (p : Int) :
    Calls Try.prog 26 #[.pointer (some ⟨b, 0, none⟩), .int .i64 p] w fun e w' => e = .returned (.int .i64 (turnE x p 0)) ∧ UM w' b (turnS x p 0) ∧ Ch [b] w w' := by
  by_cases hp : 0 ≤ p ∧ p < x.n
  · obtain ⟨k, rfl⟩ : ∃ k : Nat, p = (k : Int) := ⟨p.toNat, by omega⟩
    have hk : k < x.n := by omega
    have hi := h.hi
    have HS := Lib.hid (st_in h hk)
    have c := h.s k (by omega)
    have f := h.fr (1 + k)
    have H := Lib.hid h
    have hE : turnE x (k : Int) 0 = kindE (x.s k) 0 := by unfold turnE; rw [if_pos hp]; rfl
    by_cases h2 : x.s k = 2
    · have hE2 : turnE x (k : Int) 0 = 14 := by rw [hE, h2]; rfl
      have hS : turnS x (k : Int) 0 = x := by unfold turnS; rw [if_neg (by rw [hE2]; decide)]
      rw [hE2, hS]
      rw [h2] at c
      clear h hp hE hE2 hS h2
      go_enter Try.func26, Try.ntmps26
      go_wp2_with (with_reducible refine HS.out.mono ?_; rintro e w' ⟨rfl, rfl⟩)
      go_ret
      exact ⟨rfl, H.out, Ch.refl _ _⟩
    · by_cases h1 : x.s k = 1
      · have hE2 : turnE x (k : Int) 0 = 5 := by rw [hE, h1]; rfl
        have hS : turnS x (k : Int) 0 = x := by unfold turnS; rw [if_neg (by rw [hE2]; decide)]
        rw [hE2, hS]
        rw [h1] at c
        clear h hp hE hE2 hS h2 h1
        go_enter Try.func26, Try.ntmps26
        go_wp2_with (with_reducible refine HS.out.mono ?_; rintro e w' ⟨rfl, rfl⟩)
        go_ret
        exact ⟨rfl, H.out, Ch.refl _ _⟩
      · have hE2 : turnE x (k : Int) 0 = 0 := by rw [hE]; simp [kindE, h2, h1]
        have hS : turnS x (k : Int) 0 = ⟨x.n, putF x.s k 1, x.b⟩ := by unfold turnS; rw [if_pos hE2]; rfl
        rw [hE2, hS]
        have hb2 : (x.s k == 2) = false := by simpa using h2
        have hb1 : (x.s k == 1) = false := by simpa using h1
        have HU := Lib.hid (h.setS (show k < 16 by omega) 1)
        clear h hp hE hE2 hS h2 h1
        go_enter Try.func26, Try.ntmps26
        go_wp2_with (with_reducible refine HS.out.mono ?_; rintro e w' ⟨rfl, rfl⟩)
        go_ret
        exact ⟨rfl, HU.out, (Ch.refl _ _).setCell (by simp) _⟩
  · have HS := Lib.hid (st_out h hp)
    have hE2 : turnE x p 0 = 2 := by unfold turnE; rw [if_neg hp]
    have hS : turnS x p 0 = x := by unfold turnS; rw [if_neg (by rw [hE2]; decide)]
    rw [hE2, hS]
    have H := Lib.hid h
    clear h hp hE2 hS
    go_enter Try.func26, Try.ntmps26
    go_wp2_with (with_reducible refine HS.out.mono ?_; rintro e w' ⟨rfl, rfl⟩)
    go_ret
    exact ⟨rfl, H.out, Ch.refl _ _⟩
theorem turn1_any {w : World} {b : Nat} {x : MS} (h : UM w b x) (p : Int) :
    Calls Try.prog 29 #[.pointer (some ⟨b, 0, none⟩), .int .i64 p] w fun e w' => e = .returned (.int .i64 (turnE x p 1)) ∧ UM w' b (turnS x p 1) ∧ Ch [b] w w' := by
  by_cases hp : 0 ≤ p ∧ p < x.n
  · obtain ⟨k, rfl⟩ : ∃ k : Nat, p = (k : Int) := ⟨p.toNat, by omega⟩
    have hk : k < x.n := by omega
    have hi := h.hi
    have HS := Lib.hid (st_in h hk)
    have c := h.s k (by omega)
    have f := h.fr (1 + k)
    have H := Lib.hid h
    have hE : turnE x (k : Int) 1 = kindE (x.s k) 1 := by unfold turnE; rw [if_pos hp]; rfl
    by_cases h1 : x.s k = 1
    · have hE2 : turnE x (k : Int) 1 = 0 := by rw [hE, h1]; rfl
      have hS : turnS x (k : Int) 1 = ⟨x.n, putF x.s k 0, x.b⟩ := by unfold turnS; rw [if_pos hE2]; rfl
      rw [hE2, hS]
      rw [h1] at c
      have HU := Lib.hid (h.setS (show k < 16 by omega) 0)
      clear h hp hE hE2 hS h1
      go_enter Try.func29, Try.ntmps29
      go_wp2_with (with_reducible refine HS.out.mono ?_; rintro e w' ⟨rfl, rfl⟩)
      go_ret
      exact ⟨rfl, HU.out, (Ch.refl _ _).setCell (by simp) _⟩
    · have hE2 : turnE x (k : Int) 1 = 4 := by rw [hE]; simp [kindE, h1]
      have hS : turnS x (k : Int) 1 = x := by unfold turnS; rw [if_neg (by rw [hE2]; decide)]
      rw [hE2, hS]
      have hb1 : (x.s k != 1) = true := by simpa using h1
      clear h hp hE hE2 hS h1
      go_enter Try.func29, Try.ntmps29
      go_wp2_with (with_reducible refine HS.out.mono ?_; rintro e w' ⟨rfl, rfl⟩)
      go_ret
      exact ⟨rfl, H.out, Ch.refl _ _⟩
  · have HS := Lib.hid (st_out h hp)
    have hE2 : turnE x p 1 = 2 := by unfold turnE; rw [if_neg hp]
    have hS : turnS x p 1 = x := by unfold turnS; rw [if_neg (by rw [hE2]; decide)]
    rw [hE2, hS]
    have H := Lib.hid h
    clear h hp hE2 hS
    go_enter Try.func29, Try.ntmps29
    go_wp2_with (with_reducible refine HS.out.mono ?_; rintro e w' ⟨rfl, rfl⟩)
    go_ret
    exact ⟨rfl, H.out, Ch.refl _ _⟩
theorem turn2_any {w : World} {b : Nat} {x : MS} (h : UM w b x) (p : Int) :
    Calls Try.prog 30 #[.pointer (some ⟨b, 0, none⟩), .int .i64 p] w fun e w' => e = .returned (.int .i64 (turnE x p 2)) ∧ UM w' b (turnS x p 2) ∧ Ch [b] w w' := by
  by_cases hp : 0 ≤ p ∧ p < x.n
  · obtain ⟨k, rfl⟩ : ∃ k : Nat, p = (k : Int) := ⟨p.toNat, by omega⟩
    have hk : k < x.n := by omega
    have hi := h.hi
    have HS := Lib.hid (st_in h hk)
    have c := h.s k (by omega)
    have f := h.fr (1 + k)
    have H := Lib.hid h
    have hE : turnE x (k : Int) 2 = kindE (x.s k) 2 := by unfold turnE; rw [if_pos hp]; rfl
    by_cases h2 : x.s k = 2
    · have hE2 : turnE x (k : Int) 2 = 5 := by rw [hE, h2]; rfl
      have hS : turnS x (k : Int) 2 = x := by unfold turnS; rw [if_neg (by rw [hE2]; decide)]
      rw [hE2, hS]
      rw [h2] at c
      clear h hp hE hE2 hS h2
      go_enter Try.func30, Try.ntmps30
      go_wp2_with (with_reducible refine HS.out.mono ?_; rintro e w' ⟨rfl, rfl⟩)
      go_ret
      exact ⟨rfl, H.out, Ch.refl _ _⟩
    · have hE2 : turnE x (k : Int) 2 = 0 := by rw [hE]; simp [kindE, h2]
      have hS : turnS x (k : Int) 2 = ⟨x.n, putF x.s k 2, x.b⟩ := by unfold turnS; rw [if_pos hE2]; rfl
      rw [hE2, hS]
      have hb2 : (x.s k == 2) = false := by simpa using h2
      have HU := Lib.hid (h.setS (show k < 16 by omega) 2)
      clear h hp hE hE2 hS h2
      go_enter Try.func30, Try.ntmps30
      go_wp2_with (with_reducible refine HS.out.mono ?_; rintro e w' ⟨rfl, rfl⟩)
      go_ret
      exact ⟨rfl, HU.out, (Ch.refl _ _).setCell (by simp) _⟩
  · have HS := Lib.hid (st_out h hp)
    have hE2 : turnE x p 2 = 2 := by unfold turnE; rw [if_neg hp]
    have hS : turnS x p 2 = x := by unfold turnS; rw [if_neg (by rw [hE2]; decide)]
    rw [hE2, hS]
    have H := Lib.hid h
    clear h hp hE2 hS
    go_enter Try.func30, Try.ntmps30
    go_wp2_with (with_reducible refine HS.out.mono ?_; rintro e w' ⟨rfl, rfl⟩)
    go_ret
    exact ⟨rfl, H.out, Ch.refl _ _⟩

/-- The cells of bytes. -/
def u8s (l : List Int) : List Value := l.map fun v => .int .u8 v
theorem u8s_len (l : List Int) : (u8s l).length = l.length := by simp [u8s]
theorem u8s_one (l : List Int) : ∀ v ∈ u8s l, v.oneCell' = true := by
  intro v hv
  obtain ⟨z, _, rfl⟩ := List.mem_map.1 hv
  rfl
/-- Bytes are laid into a memory. -/
theorem UM.setB {w : World} {b : Nat} {x : MS} (h : UM w b x) {a : Nat} {l : List Int} (hl : a + l.length ≤ 256) : UM (w.setCells b (17 + a) (u8s l)) b ⟨x.n, x.s, pokeF x.b a l⟩ := by
  have hin : ∀ j, j < (u8s l).length → (w.cell? ⟨b, 17 + a + j, none⟩).isSome = true := fun j hj => by
    rw [u8s_len] at hj
    rw [Nat.add_assoc, h.y (a + j) (by omega)]
    rfl
  refine ⟨h.lo, h.hi, ?_, fun i hi => ?_, fun i hi => ?_, fun k => ?_⟩
  · rw [World.cell?_setCells_out _ _ _ _ _ (fun _ _ => .inl (by simp only; omega))]
    exact h.c
  · rw [World.cell?_setCells_out _ _ _ _ _ (fun _ _ => .inl (by simp only; omega))]
    exact h.s i hi
  · by_cases e : a ≤ i ∧ i < a + l.length
    · obtain ⟨j, rfl⟩ : ∃ j, i = a + j := ⟨i - a, by omega⟩
      have hj : j < l.length := by omega
      have := World.cell?_setCells_in b (u8s l) (17 + a) w hin j (by rw [u8s_len]; exact hj)
      rw [Nat.add_assoc] at this
      rw [this]
      dsimp only
      rw [pokeF_in _ _ _ hj]
      simp [u8s]
    · rw [World.cell?_setCells_out _ _ _ _ _ (fun _ _ => by rw [u8s_len]; simp only; omega)]
      dsimp only
      rw [pokeF_out _ _ _ (by omega)]
      exact h.y i hi
  · rw [World.frozen?_setCells]
    exact h.fr k
theorem Ch.setCells {S : List Nat} {a : World} {b : Nat} (hb : b ∈ S) : ∀ (vs : List Value) (o : Nat) {w : World}, Ch S a w → Ch S a (w.setCells b o vs)
  | [], _, _, h => h
  | v :: r, o, _, h => Ch.setCells hb r (o + 1) (h.setCell (p := ⟨b, o, none⟩) hb v)

theorem poke_any {w : World} {b : Nat} {x : MS} (h : UM w b x) (a : Int) (hr : a ≤ 9223372036854775807) (v : Option Addr) (cap : Nat) (l : List Int) {n : Nat} (hn : l.length = n) (hn2 : n ≤ 1000) (hl : BytesAt w v l) :
    Calls Try.prog 25 #[.pointer (some ⟨b, 0, none⟩), .int .i64 a, .slice v n cap] w fun e w' => e = .returned (.int .i64 (pieceE (16 * x.n) a n)) ∧ UM w' b (pokeS x a l) ∧ Ch [b] w w' := by
  have H := Lib.hid h
  by_cases hin : wIn (16 * x.n) a n
  · obtain ⟨k, rfl⟩ : ∃ k : Nat, a = (k : Int) := ⟨a.toNat, by omega⟩
    have hkn : k + n ≤ 16 * x.n := by omega
    have HP := Lib.hid (piece_in h hkn)
    have hE : pieceE (16 * x.n) (k : Int) n = 0 := by unfold pieceE; rw [if_pos hin]
    have hS : pokeS x (k : Int) l = ⟨x.n, x.s, pokeF x.b k l⟩ := by unfold pokeS; rw [if_pos (by rw [hn]; exact hin)]; rfl
    rw [hE, hS]
    have hi := h.hi
    have HU := Lib.hid (h.setB (a := k) (l := l) (by omega))
    have HC := Lib.hid (Ch.setCells (S := [b]) (b := b) (by simp) (u8s l) (17 + k) (Ch.refl [b] w))
    have hcopy : ∀ o cp, (0 < n → o = 17 + k) → (Builtin.copy_ #[23, 23] 3 #[.slice (some ⟨b, o, none⟩) n cp, .slice v n cap]).run Try.prog w = .ok (goInt n) (w.setCells b (17 + k) (u8s l)) := by
      intro o cp ho
      by_cases h0 : n = 0
      · obtain rfl : l = [] := List.eq_nil_of_length_eq_zero (by omega)
        have := run_copy_none (P := Try.prog) w 23 23 3 5 (some ⟨b, o, none⟩) v n cp n cap (by kernel_rfl) (by kernel_rfl) (by simp [h0])
        rw [this, h0]
        rfl
      · obtain rfl := ho (by omega)
        rcases hl with rfl | ⟨B, off, rfl, hc⟩
        · simp at hn; omega
        · have := run_copy_cells (P := Try.prog) w 23 23 3 5 b (17 + k) n cp ⟨B, off, none⟩ n cap (u8s l) (by kernel_rfl) (by kernel_rfl) (by rw [u8s_len]; simp [hn])
            (fun j u hj => by
              have hjl : j < l.length := by have := (List.getElem?_eq_some_iff.1 hj).1; rwa [u8s_len] at this
              rw [addr_add, hc j hjl]
              simpa [u8s, hjl] using hj)
            (fun j hj => by
              rw [u8s_len] at hj
              rw [Nat.add_assoc, h.y (k + j) (by omega)]
              rfl) (fun j _ => h.fr _) (u8s_one l)
          rw [this, u8s_len, hn]
    clear h hin hE hS hl hi hr
    go_enter Try.func25, Try.ntmps25
    go_wp2_with (with_reducible refine HP.out.mono ?_; rintro e w' ⟨o, cp, rfl, ho, rfl⟩; have hc := hcopy o cp ho; clear ho)
    go_ret
    exact ⟨rfl, HU.out, HC.out⟩
  · have HP := Lib.hid (piece_out h hr hin)
    have hE : pieceE (16 * x.n) a n = 2 := by unfold pieceE; rw [if_neg hin]
    have hS : pokeS x a l = x := by unfold pokeS; rw [if_neg (by rw [hn]; exact hin)]
    rw [hE, hS]
    have hcopy := run_copy_none (P := Try.prog) w 23 23 3 5 none v 0 0 n cap (by kernel_rfl) (by kernel_rfl) (by simp)
    clear h hin hE hS hl hr
    go_enter Try.func25, Try.ntmps25
    go_wp2_with (with_reducible refine HP.out.mono ?_; rintro e w' ⟨rfl, rfl⟩)
    go_ret
    exact ⟨rfl, H.out, Ch.refl _ _⟩

/-- New bytes: nil, or a row of the call's own. -/
def NB (w : World) (lo : Nat) (v : Value) (l : List Int) : Prop := w.ownsRow lo 5 1 v l.length (u8s l)
theorem NB.form {w : World} {lo : Nat} {v : Value} {l : List Int} (h : NB w lo v l) : ∃ a cap, v = .slice a l.length cap ∧ BytesAt w a l ∧ ∀ y, a = some y → lo ≤ y.block ∧ y.block < w.heap.size := by
  unfold NB at h
  by_cases h0 : l = []
  · subst h0
    rcases h.2 with ⟨rfl, _⟩ | ⟨g, cp, cur, rfl, hb, hg, _⟩
    · exact ⟨none, 0, rfl, .inl rfl, by simp⟩
    · refine ⟨some ⟨g, 0, none⟩, cp, rfl, .inl rfl, fun y e => ?_⟩
      cases e
      exact ⟨hb, (Array.getElem?_eq_some_iff.1 hg).1⟩
  · have hl : 0 < l.length := List.length_pos_iff.2 h0
    obtain ⟨a, cap, rfl⟩ := own_form h
    obtain ⟨g, rfl, hb, hs, _, hc⟩ := own_cells h 0 (by omega)
    refine ⟨some ⟨g, 0, none⟩, cap, rfl, .inr ⟨g, 0, rfl, fun i hi => ?_⟩, fun y e => by cases e; exact ⟨hb, hs⟩⟩
    rw [Nat.zero_add, hc i (by omega)]
    simp [u8s, hi]
theorem peek_any {w : World} {b : Nat} {x : MS} (h : UM w b x) (a m : Int) (hr : a ≤ 9223372036854775807) {l : List Int} (hl : l = if wIn (16 * x.n) a m then peekL x.b a.toNat m.toNat else []) :
    Calls Try.prog 22 #[.pointer (some ⟨b, 0, none⟩), .int .i64 a, .int .i64 m] w fun e w' => ∃ v, e = .returned (.tuple #[v, .int .i64 (pieceE (16 * x.n) a m)]) ∧ NB w' w.heap.size v l ∧ Ch [] w w' := by
  obtain ⟨i0, hI, hz0, hz1, hz2⟩ : ∃ i : TypeInfo, Try.prog.info? 5 = some i ∧ i.zero = some (.int .u8 0) ∧ i.size = 1 ∧ i.bytes = 1 := by
    refine ⟨_, rfl, by kernel_rfl, by kernel_rfl, by kernel_rfl⟩
  by_cases hin : wIn (16 * x.n) a m
  · rw [if_pos hin] at hl
    obtain ⟨k, rfl⟩ : ∃ k : Nat, a = (k : Int) := ⟨a.toNat, by omega⟩
    obtain ⟨n, rfl⟩ : ∃ k : Nat, m = (k : Int) := ⟨m.toNat, by omega⟩
    rw [Int.toNat_natCast, Int.toNat_natCast] at hl
    have hkn : k + n ≤ 16 * x.n := by omega
    have HP := Lib.hid (piece_in h hkn)
    have hE : pieceE (16 * x.n) (k : Int) n = 0 := by unfold pieceE; rw [if_pos hin]
    rw [hE]
    have hi := h.hi
    have hln : l.length = n := by rw [hl, peekL_len]
    have hsrc : 0 < n → ∀ j u, (u8s l)[j]? = some u → w.cell? ((⟨b, 17 + k, none⟩ : Addr).add j) = some u := fun _ j u hj => by
      have hjl : j < n := by have := (List.getElem?_eq_some_iff.1 hj).1; rwa [u8s_len, hln] at this
      rw [addr_add, Nat.add_assoc, h.y (k + j) (by omega), ← hj]
      have := peekL_at x.b k n hjl
      rw [← hl] at this
      simp [u8s, this]
    have HS := Lib.hid hsrc
    have HL := Lib.hid hln
    clear h hin hE hr hsrc hl hln
    go_enter Try.func22, Try.ntmps22
    go_wp2_with (first | (with_reducible refine HP.out.mono ?_; rintro e w' ⟨o, cp, rfl, ho, rfl⟩; have HO := Lib.hid ho; clear ho) | (at_builtin; go_must (refine wpList_append_own _ rfl _ _ 23 rfl w.heap.size 5 i0 (.int .u8 0) 1 1 Try.underlying23 hI hz0 hz1 hz2 rfl (by decide) (.slice none 0 0) 0 [] rfl (World.ownsRow_nil _ _ _ _) ⟨b, o, none⟩ n cp (u8s l) rfl ?c1 ?c2 (u8s_one l) ?c3 ?c4 (Nat.le_refl _) ?_)))
    case c1 => rw [u8s_len, HL.out]; omega
    case c2 =>
      intro j u hj
      have hjl : j < n := by have := (List.getElem?_eq_some_iff.1 hj).1; rwa [u8s_len, HL.out] at this
      obtain rfl := HO.out (by omega)
      exact HS.out (by omega) j u hj
    case c3 => unfold maxLen; omega
    case c4 => omega
    intro v' w' hown hgrow _
    have hc : Ch [] w w' := (Ch.refl [] w).kept hgrow (by simp [Value.ownBlock])
    have HN := Lib.hid (show NB w' w.heap.size v' l from by unfold NB; rw [HL.out]; simpa using hown)
    have HC := Lib.hid hc
    clear hown hgrow hc
    go_wp2_with fail
    go_ret2
    exact ⟨v', rfl, HN.out, HC.out⟩
  · rw [if_neg hin] at hl
    subst hl
    have HP := Lib.hid (piece_out h hr hin)
    have hE : pieceE (16 * x.n) a m = 2 := by unfold pieceE; rw [if_neg hin]
    rw [hE]
    clear h hin hE hr
    go_enter Try.func22, Try.ntmps22
    go_wp2_with (first | (with_reducible refine HP.out.mono ?_; rintro e w' ⟨rfl, rfl⟩) | (at_builtin; go_must (refine wpList_append_own_none rfl _ _ 23 rfl w.heap.size 5 i0 1 Try.underlying23 hI (.slice none 0 0) 0 [] rfl (World.ownsRow_nil _ _ _ _) rfl ?_)))
    go_wp2_with fail
    go_ret2
    exact ⟨_, rfl, World.ownsRow_nil _ _ _ _, Ch.refl _ _⟩
end Go.Proofs.Ytcdolkbljheniaa

/-
  Bytes in memory, new rows of bytes, the document's Same; instructions in memory.
-/
import Derived.Test.YtgldkalagmjkfaaDoorIsM
namespace Go.Proofs.YtgldkalagmjkfaaDoor
open Go.RowKit

/-- Bytes in memory, one behind the other. -/
def BytesAt (w : World) (a : Option Addr) (l : List Int) : Prop := l = [] ∨ ∃ b off, a = some ⟨b, off, none⟩ ∧ ∀ i (hi : i < l.length), w.cell? ⟨b, off + i, none⟩ = some (.int .u8 l[i])
theorem BytesAt.ch {w w' : World} {S : List Nat} {a : Option Addr} {l : List Int} (h : BytesAt w a l) (hc : Ch S w w') (hS : ∀ y, a = some y → y.block ∉ S) : BytesAt w' a l := by
  rcases h with rfl | ⟨b, off, rfl, hk⟩
  · exact .inl rfl
  · refine .inr ⟨b, off, rfl, fun i hi => ?_⟩
    have h1 := hk i hi
    exact (hc.cell (p := ⟨b, off + i, none⟩) (cell_lt h1) (hS ⟨b, off, none⟩ rfl)).trans h1
theorem BytesAt.take {w : World} {a : Option Addr} {l : List Int} (h : BytesAt w a l) (k : Nat) : BytesAt w a (l.take k) := by
  rcases h with rfl | ⟨b, off, rfl, hk⟩
  · exact .inl (by simp)
  · refine .inr ⟨b, off, rfl, fun i hi => ?_⟩
    rw [List.length_take] at hi
    rw [hk i (by omega), List.getElem_take]

theorem BytesAt.drop {w : World} {b off : Nat} {l : List Int} (h : BytesAt w (some ⟨b, off, none⟩) l) (k : Nat) : BytesAt w (some ⟨b, off + k, none⟩) (l.drop k) := by
  rcases h with rfl | ⟨b', off', e, hk⟩
  · exact .inl (by simp)
  · cases e
    refine .inr ⟨b, off + k, rfl, fun i hi => ?_⟩
    rw [List.length_drop] at hi
    rw [Nat.add_assoc, hk (k + i) (by omega), List.getElem_drop]
def u8s (l : List Int) : List Value := l.map fun v => .int .u8 v
theorem u8s_len (l : List Int) : (u8s l).length = l.length := by simp [u8s]
theorem u8s_one (l : List Int) : ∀ v ∈ u8s l, v.oneCell' = true := by
  intro v hv
  obtain ⟨z, _, rfl⟩ := List.mem_map.1 hv
  rfl
/-- New bytes: nil, or a row of the call's own. -/
def NB (w : World) (lo : Nat) (v : Value) (l : List Int) : Prop := w.ownsRow lo 5 1 v l.length (u8s l)
theorem NB.form {w : World} {lo : Nat} {v : Value} {l : List Int} (h : NB w lo v l) : ∃ a cap, v = .slice a l.length cap ∧ BytesAt w a l ∧ ∀ y, a = some y → lo ≤ y.block ∧ y.block < w.heap.size := by
  unfold NB at h
  by_cases h0 : l = []
  · subst h0
    rcases h.2 with ⟨rfl, _⟩ | ⟨g, cp, cur, rfl, hb, hg, _⟩
    · exact ⟨none, 0, rfl, .inl rfl, by simp⟩
    · refine ⟨some ⟨g, 0, none⟩, cp, rfl, .inl rfl, fun y e => ?_⟩
      cases e
      exact ⟨hb, (Array.getElem?_eq_some_iff.1 hg).1⟩
  · have hl : 0 < l.length := List.length_pos_iff.2 h0
    obtain ⟨a, cap, rfl⟩ := own_form h
    obtain ⟨g, rfl, hb, hs, _, hc⟩ := own_cells h 0 (by omega)
    refine ⟨some ⟨g, 0, none⟩, cap, rfl, .inr ⟨g, 0, rfl, fun i hi => ?_⟩, fun y e => by cases e; exact ⟨hb, hs⟩⟩
    rw [Nat.zero_add, hc i (by omega)]
    simp [u8s, hi]
theorem NB.nil (w : World) (lo : Nat) : NB w lo (.slice none 0 0) [] := World.ownsRow_nil _ _ _ _
theorem NB.more {w : World} {lo : Nat} {v : Value} {l m : List Int} {n : Nat} (hn : n = l.length + m.length) (h : w.ownsRow lo 5 1 v n (u8s l ++ u8s m)) : NB w lo v (l ++ m) := by
  subst hn
  unfold NB
  simpa [u8s] using h
theorem NB.ch {w w' : World} {S : List Nat} {lo : Nat} {v : Value} {l : List Int} (h : NB w lo v l) (hc : Ch S w w') (hS : ∀ k ∈ S, k < lo) : NB w' lo v l := own_ch h hc hS

/-- Same bytes are the same. -/
theorem same_any {w : World} {a1 a2 : Option Addr} {l : List Int} {n : Nat} (c1 c2 : Nat) (hn : l.length = n) (hn2 : n ≤ 100000) (h1 : BytesAt w a1 l) (h2 : BytesAt w a2 l) :
    Calls Tryd.prog 20 #[.slice a1 n c1, .slice a2 n c2] w fun e w' => e = .returned (.bool true) ∧ Ch [] w w' := by
  have H1 := Lib.hid h1
  have H2 := Lib.hid h2
  have HN := Lib.hid hn
  clear h1 h2 hn
  go_enter Tryd.func20, Tryd.ntmps20
  go_wp2_with fail
  go_loopw [5] (fun i wr => Ch [] w wr ∧ ∃ j : Nat, i = .int .i64 (j : Int) ∧ j ≤ n) (fun i _ => n - (intOf i).toNat)
  case atStart => exact ⟨Ch.refl _ _, 0, rfl, Nat.zero_le _⟩
  case round =>
    obtain ⟨hcw, j, rfl, hj1⟩ := hrel
    by_cases hlt : j < n
    · have hjl : j < l.length := by rw [HN.out]; exact hlt
      have hlt' : (j : Int) < (n : Int) := by omega
      have k1 := H1.out.ch hcw (by simp)
      have k2 := H2.out.ch hcw (by simp)
      have HC := Lib.hid hcw
      rcases k1 with rfl | ⟨b1, o1, rfl, k1⟩
      · simp at hjl
      · rcases k2 with rfl | ⟨b2, o2, rfl, k2⟩
        · simp at hjl
        · have d1 := k1 j hjl
          have d2 := k2 j hjl
          generalize l[j] = z at d1 d2
          clear k1 k2 hcw
          go_wp2_with fail
          go_region
          go_wp2_with fail
          go_roundw
          case rel => exact ⟨HC.out.drew, j + 1, by go_num, by omega⟩
          case measure => simp [intOf]; omega
    · obtain rfl : j = n := by omega
      have HC := Lib.hid hcw
      clear hcw
      go_wp2
      go_ret
      exact ⟨rfl, HC.out⟩


/-- Bytes that differ are not the same. -/
theorem same_not {w : World} {a1 a2 : Option Addr} {l m : List Int} (c1 c2 : Nat) (hn2 : l.length ≤ 100000) (_ : m.length ≤ 100000) (hne : l ≠ m) (h1 : BytesAt w a1 l) (h2 : BytesAt w a2 m) :
    Calls Tryd.prog 20 #[.slice a1 l.length c1, .slice a2 m.length c2] w fun e w' => e = .returned (.bool false) ∧ Ch [] w w' := by
  by_cases hl : l.length = m.length
  · have H1 := Lib.hid h1
    have H2 := Lib.hid h2
    have HL := Lib.hid hl
    have HNe := Lib.hid hne
    obtain ⟨n, hn⟩ : ∃ n, n = l.length := ⟨_, rfl⟩
    rw [← hl, ← hn]
    have HN := Lib.hid hn
    have hn3 : n ≤ 100000 := by omega
    clear h1 h2 hl hne hn2 hn
    go_enter Tryd.func20, Tryd.ntmps20
    go_wp2_with fail
    go_loopw [5] (fun i wr => Ch [] w wr ∧ ∃ j : Nat, i = .int .i64 (j : Int) ∧ j ≤ n ∧ ∀ k (hk : k < l.length) (hk2 : k < m.length), k < j → l[k] = m[k]) (fun i _ => n - (intOf i).toNat)
    case atStart => exact ⟨Ch.refl _ _, 0, rfl, Nat.zero_le _, fun _ _ _ h => absurd h (by omega)⟩
    case round =>
      obtain ⟨hcw, j, rfl, hj1, hal⟩ := hrel
      have HAl := Lib.hid hal
      clear hal
      by_cases hlt : j < n
      · have hjl : j < l.length := by rw [← HN.out]; exact hlt
        have hjm : j < m.length := by rw [← HL.out]; exact hjl
        have hlt' : (j : Int) < (n : Int) := by omega
        have k1 := H1.out.ch hcw (by simp)
        have k2 := H2.out.ch hcw (by simp)
        have HC := Lib.hid hcw
        rcases k1 with rfl | ⟨b1, o1, rfl, k1⟩
        · simp at hjl
        · rcases k2 with rfl | ⟨b2, o2, rfl, k2⟩
          · simp at hjm
          · have d1 := k1 j hjl
            have d2 := k2 j hjm
            by_cases he : l[j] = m[j]
            · have HE := Lib.hid he
              rw [← he] at d2
              generalize l[j] = z at d1 d2
              clear k1 k2 hcw he
              go_wp2_with fail
              go_region
              go_wp2_with fail
              go_roundw
              case rel => exact ⟨HC.out.drew, j + 1, by go_num, by omega, fun k hk hk2 hkj => by
                by_cases e : k = j
                · subst e; exact HE.out
                · exact HAl.out k hk hk2 (by omega)⟩
              case measure => simp [intOf]; omega
            · have hb : (l[j] != m[j]) = true := by simpa using he
              generalize l[j] = z at d1 hb
              generalize m[j] = y at d2 hb
              clear k1 k2 hcw hjl hjm he
              go_wp2_with fail
              go_region
              go_wp2_with fail
              go_ret
              exact ⟨rfl, HC.out.drew⟩
      · exfalso
        obtain rfl : j = n := by omega
        refine HNe.out (List.ext_getElem HL.out fun k hk hk2 => HAl.out k hk hk2 ?_)
        rw [HN.out]; exact hk
  · have hd : ((l.length : Int) != (m.length : Int)) = true := by
      rw [bne_iff_ne]; omega
    generalize l.length = n1 at *
    generalize m.length = n2 at *
    clear h1 h2 hne hl
    go_enter Tryd.func20, Tryd.ntmps20
    go_wp2_with fail
    go_ret
    exact ⟨rfl, Ch.refl _ _⟩

/-- Instructions in memory: five cells each. -/
def fiv (x : I5) : List Value := [.int .i64 x.op, .int .i64 x.d, .int .i64 x.s, .int .i64 x.o, .int .i64 x.i]
structure FiveO (w : World) (b o : Nat) (x : I5) : Prop where
  c0 : w.cell? ⟨b, o, none⟩ = some (.int .i64 x.op)
  c1 : w.cell? ⟨b, o + 1, none⟩ = some (.int .i64 x.d)
  c2 : w.cell? ⟨b, o + 2, none⟩ = some (.int .i64 x.s)
  c3 : w.cell? ⟨b, o + 3, none⟩ = some (.int .i64 x.o)
  c4 : w.cell? ⟨b, o + 4, none⟩ = some (.int .i64 x.i)
theorem FiveO.ch {S : List Nat} {w w' : World} {b o : Nat} {x : I5} (h : FiveO w b o x) (hc : Ch S w w') (hb : b ∉ S) : FiveO w' b o x :=
  have hl := cell_lt h.c0
  ⟨(hc.cell (p := ⟨b, o, none⟩) hl hb).trans h.c0, (hc.cell (p := ⟨b, o + 1, none⟩) hl hb).trans h.c1, (hc.cell (p := ⟨b, o + 2, none⟩) hl hb).trans h.c2, (hc.cell (p := ⟨b, o + 3, none⟩) hl hb).trans h.c3, (hc.cell (p := ⟨b, o + 4, none⟩) hl hb).trans h.c4⟩
def InsAt (w : World) (a : Option Addr) (L : List I5) : Prop := L = [] ∨ ∃ b off, a = some ⟨b, off, none⟩ ∧ ∀ i (hi : i < L.length), FiveO w b (off + i * 5) L[i]
theorem InsAt.ch {w w' : World} {S : List Nat} {a : Option Addr} {L : List I5} (h : InsAt w a L) (hc : Ch S w w') (hS : ∀ y, a = some y → y.block ∉ S) : InsAt w' a L := by
  rcases h with rfl | ⟨b, off, rfl, hk⟩
  · exact .inl rfl
  · exact .inr ⟨b, off, rfl, fun i hi => (hk i hi).ch hc (hS ⟨b, off, none⟩ rfl)⟩
/-- The first error. -/
def firstE : List I5 → Int
  | [] => 0
  | x :: l => if chk x = 0 then firstE l else chk x
def encL (L : List I5) : List Int := L.flatMap enc
theorem encL_len (L : List I5) : (encL L).length = 8 * L.length := by
  induction L with
  | nil => rfl
  | cons x l ih => simp [encL, enc_length] at ih ⊢; omega
theorem encL_snoc (L : List I5) (x : I5) : encL (L ++ [x]) = encL L ++ enc x := by simp [encL]
theorem firstE_at {L : List I5} {j : Nat} (hj : j < L.length) (h : ∀ i (hi : i < L.length), i < j → chk L[i] = 0) (he : chk L[j] ≠ 0) : firstE L = chk L[j] := by
  induction L generalizing j with
  | nil => simp at hj
  | cons x l ih =>
    unfold firstE
    cases j with
    | zero => rw [if_neg (by simpa using he)]; rfl
    | succ j =>
      rw [if_pos (show chk x = 0 from h 0 (by simp) (by omega))]
      exact ih (by simpa using hj) (fun i hi hij => show chk l[i] = 0 from h (i + 1) (by simpa using hi) (by omega)) (by simpa using he)
theorem firstE_none {L : List I5} (h : ∀ i (hi : i < L.length), chk L[i] = 0) : firstE L = 0 := by
  induction L with
  | nil => rfl
  | cons x l ih =>
    unfold firstE
    rw [if_pos (show chk x = 0 from h 0 (by simp))]
    exact ih (fun i hi => show chk l[i] = 0 from h (i + 1) (by simpa using hi))
end Go.Proofs.YtgldkalagmjkfaaDoor

/-
  Counts by keys of int: holdOne, whatever there is; Hold.
-/
import Derived.Test.YtbjlkmmijdhgoaaCID
import Derived.Test.YtbjlkmmijdhgoaaCoC
namespace Go.Proofs.Ytbjlkmmijdhgoaa.cI
open Go.RowKit Go.Maps

attribute [local go_sem] Oper.semAt_some

def ct (e : Ent) : Ct K := (e.k, e.n, e.s)
abbrev blocks (L : List Ent) : List Nat := L.map (·.b)

theorem hold_one {w : World} {R M top : Nat} {L : List Ent} (h : RF w R M top L) {k : K} (hk : wfK k) :
    Calls Try.prog 31 #[.pointer (some ⟨R, 0, none⟩), kv k] w fun r w' => r = .returned (.int .i64 (holdC top (L.map ct) k).2) ∧
      ∃ L', L'.map ct = (holdC top (L.map ct) k).1 ∧ RF w' R M top L' ∧ Ch (M :: blocks L) w w' ∧ ∀ x ∈ blocks L', x ∈ blocks L ∨ w.heap.size ≤ x := by
  rcases in_or_not L k with ⟨A, B, e, rfl, rfl⟩ | hno
  · obtain ⟨n, s, E, hG⟩ : ∃ n s E, getN e.n top e.s = (n, s, E) := ⟨_, _, _, rfl⟩
    have hA : ∀ x ∈ A.map ct, x.1 ≠ e.k := by
      intro x hx e1
      obtain ⟨y, hy, rfl⟩ := List.mem_map.1 hx
      obtain ⟨D, _, hv⟩ := h.own
      have hnd := hv.nd
      rw [List.map_append, List.map_cons, List.nodup_append] at hnd
      exact hnd.2.2 y.k (List.mem_map.2 ⟨y, hy, rfl⟩) e.k (by simp) e1
    have e1 := holdC_old (top := top) (B := B.map ct) hA hG
    have e2 : (A ++ e :: B).map ct = A.map ct ++ (e.k, e.n, e.s) :: B.map ct := by simp [ct]
    rw [e2, e1]
    refine (hold_old h hG).mono ?_
    rintro r w' ⟨rfl, hr, hc⟩
    exact ⟨rfl, A ++ ⟨e.k, e.b, n, s⟩ :: B, by simp [ct], hr, hc.mono (by simp), fun x hx => .inl (by simpa [blocks] using hx)⟩
  · have hno2 : ∀ x ∈ L.map ct, x.1 ≠ k := fun x hx => by
      obtain ⟨y, hy, rfl⟩ := List.mem_map.1 hx
      exact hno y hy
    have hl := h.hl
    by_cases h64 : L.length = 64
    · rw [holdC_full hno2 (by simpa using h64)]
      refine (hold_full h hk hno h64).mono ?_
      rintro r w' ⟨rfl, hc⟩
      exact ⟨rfl, L, rfl, h.quiet hc, hc.mono (by simp), fun x hx => .inl hx⟩
    · rw [holdC_new hno2 (by simp; omega)]
      refine (hold_new h hk hno (by omega)).mono ?_
      rintro r w' ⟨rfl, nb, hb, hr, hc⟩
      refine ⟨rfl, _, by simp [ct], hr, hc.mono (by simp), fun x hx => ?_⟩
      rw [blocks, List.map_cons, List.mem_cons] at hx
      rcases hx with rfl | hx
      · exact .inr hb
      · exact .inl hx

/-- A row of keys that came in. -/
def KAt (w : World) (a : Option Addr) (ks : List K) : Prop := ks = [] ∨ ∃ b off, a = some ⟨b, off, none⟩ ∧ ∀ i k, ks[i]? = some k → w.cell? ⟨b, off + i, none⟩ = some (kv k)
theorem KAt.ch {w w' : World} {S : List Nat} {a : Option Addr} {ks : List K} (h : KAt w a ks) (hc : Ch S w w') (hS : ∀ b off, a = some ⟨b, off, none⟩ → b ∉ S) : KAt w' a ks := by
  rcases h with h | ⟨b, off, e, h⟩
  · exact .inl h
  · exact .inr ⟨b, off, e, fun i k hi => (hc.cell (p := ⟨b, off + i, none⟩) (cell_lt (h i k hi)) (hS b off e)).trans (h i k hi)⟩

theorem KAt.below {w w' : World} {a : Option Addr} {ks : List K} (h : KAt w a ks) (hc : Ch [] w w') : KAt w' a ks := h.ch hc (by simp)
theorem KAt.block {w : World} {a : Option Addr} {ks : List K} (h : KAt w a ks) (hne : ks ≠ []) {b off : Nat} (e : a = some ⟨b, off, none⟩) : b < w.heap.size := by
  rcases h with h | ⟨b', off', e', h⟩
  · exact absurd h hne
  · rw [e] at e'
    cases e'
    cases ks with
    | nil => exact absurd rfl hne
    | cons k t => exact cell_lt (h 0 k rfl)
theorem KAt.take {w : World} {a : Option Addr} {ks : List K} (h : KAt w a ks) (n : Nat) : KAt w a (ks.take n) := by
  rcases h with h | ⟨b, off, e, h⟩
  · exact .inl (by rw [h]; simp)
  · refine .inr ⟨b, off, e, fun i k hi => ?_⟩
    by_cases hlt : i < n
    · rw [List.getElem?_take_of_lt hlt] at hi; exact h i k hi
    · rw [List.getElem?_take_eq_none (by omega)] at hi; cases hi

/-- What Hold has done behind its first calls. -/
structure HR (w wr : World) (R M top : Nat) (L : List Ent) (C : List (Ct K)) (L' : List Ent) : Prop where
  c : L'.map ct = C
  rf : RF wr R M top L'
  ch : Ch (M :: blocks L) w wr
  bl : ∀ x ∈ blocks L', x ∈ blocks L ∨ w.heap.size ≤ x
theorem HR.step {w wr w' : World} {R M top : Nat} {L L' L'' : List Ent} {C C' : List (Ct K)} (h : HR w wr R M top L C L') (hc : L''.map ct = C') (hr : RF w' R M top L'') (hch : Ch (M :: blocks L') wr w') (hb : ∀ x ∈ blocks L'', x ∈ blocks L' ∨ wr.heap.size ≤ x) : HR w w' R M top L C' L'' := by
  refine ⟨hc, hr, ?_, fun x hx => ?_⟩
  · refine ⟨hch.os.trans h.ch.os, hch.tape.trans h.ch.tape, hch.output.trans h.ch.output, Nat.le_trans h.ch.size hch.size, fun k hk hn => ?_⟩
    refine (hch.block k (Nat.lt_of_lt_of_le hk h.ch.size) (fun hm => hn ?_)).trans (h.ch.block k hk hn)
    rcases List.mem_cons.1 hm with rfl | hm
    · simp
    · rcases h.bl k hm with h1 | h1
      · exact List.mem_cons_of_mem _ h1
      · omega
  · rcases hb x hx with h1 | h1
    · exact h.bl x h1
    · have := h.ch.size
      exact .inr (by omega)

set_option maxHeartbeats 1000000 in
theorem hold_any {w : World} {R M top : Nat} {L : List Ent} (h : RF w R M top L) (a : Option Addr) (cap : Nat) (ks : List K) (hk : ∀ k ∈ ks, wfK k) (ha : KAt w a ks) (hS : ks ≠ [] → ∀ b off, a = some ⟨b, off, none⟩ → b ∉ M :: blocks L) (hl : ks.length ≤ maxLen) :
    Calls Try.prog 20 #[.pointer (some ⟨R, 0, none⟩), .slice a ks.length cap] w fun r w' => r = .returned (.int .i64 (holdsC top (L.map ct) ks).2) ∧
      ∃ L', HR w w' R M top L (holdsC top (L.map ct) ks).1 L' := by
  have H := Lib.hid h
  have HK := Lib.hid hk
  have HA := Lib.hid ha
  have HS := Lib.hid hS
  obtain ⟨C, hC⟩ : ∃ C, C = L.map ct := ⟨_, rfl⟩
  obtain ⟨n, hn⟩ : ∃ n, n = ks.length := ⟨_, rfl⟩
  unfold maxLen at hl
  rw [← hC, ← hn]
  rw [← hn] at hl
  have HC := Lib.hid hC
  have HN := Lib.hid hn
  clear h hk ha hS hC hn
  go_enter Try.func20, Try.ntmps20
  go_wp2_with fail
  go_loopw [12] (fun iv wr => ∃ (i : Nat) (L' : List Ent), i ≤ n ∧ iv = .int .i64 (i : Int) ∧ (holdsC top C (ks.take i)).2 = 0 ∧ HR w wr R M top L (holdsC top C (ks.take i)).1 L') (fun iv _ => n - (intOf iv).toNat)
  case atStart => exact ⟨0, L, Nat.zero_le _, rfl, by simp [holdsC], ⟨by simp [holdsC, HC.out], H.out, Ch.refl _ _, fun x hx => .inl hx⟩⟩
  case round =>
    obtain ⟨i, L', hi, rfl, h0, hr⟩ := hrel
    have HR0 := Lib.hid hr
    have H0 := Lib.hid h0
    clear hr h0
    by_cases hlt : i < n
    · obtain ⟨k, hki⟩ : ∃ k, ks[i]? = some k := ⟨_, List.getElem?_eq_getElem (by rw [← HN.out]; exact hlt)⟩
      have hkw := HK.out k (List.mem_of_getElem? hki)
      have hne : ks ≠ [] := by intro e; rw [e] at hki; simp at hki
      obtain ⟨b, off, rfl, hcells⟩ := (HA.out.ch HR0.out.ch (HS.out hne)).resolve_left hne
      have hx := hcells i k hki
      have htake : ks.take (i + 1) = ks.take i ++ [k] := by
        rw [List.take_add_one, hki]; rfl
      have hsn := holdsC_snoc (top := top) C (ks.take i) k H0.out
      rw [← htake] at hsn
      have HSn := Lib.hid hsn
      have hb0 : (0 : Int) ≤ (i : Int) := by omega
      have hb1 : (i : Int) < (n : Int) := by omega
      have hone := hold_one HR0.out.rf hkw
      rw [HR0.out.c, ← hsn] at hone
      have HOne := Lib.hid hone
      clear hcells hsn hkw hne htake hone
      go_wp2_with fail
      with_reducible refine HOne.out.mono ?_
      rintro r w2 ⟨rfl, L'', hc2, hr2, hch2, hb2⟩
      have HR2 := Lib.hid (HR0.out.step hc2 hr2 hch2 hb2)
      clear hc2 hr2 hch2 hb2 hx
      obtain ⟨E, hE⟩ : ∃ E, E = (holdsC top C (ks.take (i + 1))).2 := ⟨_, rfl⟩
      rw [← hE]
      have HE := Lib.hid hE
      clear hE
      by_cases he : E = 0
      · have hd : (E == 0) = true := by simp [he]
        have HE0 := Lib.hid he
        clear he
        go_wp2_with fail
        go_roundw
        case rel => exact ⟨i + 1, L'', by omega, by go_num, by rw [← HE.out]; exact HE0.out, HR2.out⟩
        case measure => simp [intOf]; omega
      · have hd : (E == 0) = false := by simp [he]
        have hfin : holdsC top C ks = holdsC top C (ks.take (i + 1)) := by
          have := holdsC_stop C (ks.take (i + 1)) (ks.drop (i + 1)) (by rw [← HE.out]; exact he)
          rwa [List.take_append_drop] at this
        have HFin := Lib.hid hfin
        clear hfin he
        go_wp2
        go_ret
        rw [HFin.out]
        exact ⟨by rw [HE.out]; rfl, L'', HR2.out⟩
    · obtain rfl : i = n := by omega
      have hfin : ks.take i = ks := by rw [HN.out, List.take_length]
      have HFin := Lib.hid hfin
      clear hfin
      go_wp2
      go_ret
      rw [HFin.out] at H0 HR0
      exact ⟨by rw [H0.out]; rfl, L', HR0.out⟩

theorem HR.quiet {w wr w' : World} {R M top : Nat} {L L' : List Ent} {C : List (Ct K)} (h : HR w wr R M top L C L') (hc : Ch [] wr w') : HR w w' R M top L C L' :=
  ⟨h.c, h.rf.quiet hc, h.ch.trans (hc.mono (by simp)), h.bl⟩
theorem holdsC_one {top : Nat} {C : List (Ct K)} {k : K} : holdsC top C [k] = holdC top C k := by
  have := holdsC_snoc (top := top) C [] k rfl
  simpa [holdsC] using this
theorem hold_this {w : World} {R M top : Nat} {L : List Ent} (h : RF w R M top L) {k : K} (hk : wfK k) (X cap : Nat) (hX : w.cell? ⟨X, 0, none⟩ = some (kv k)) (hM : X ∉ M :: blocks L) :
    Calls Try.prog 20 #[.pointer (some ⟨R, 0, none⟩), .slice (some ⟨X, 0, none⟩) 1 cap] w fun r w' => r = .returned (.int .i64 (holdC top (L.map ct) k).2) ∧ ∃ L', HR w w' R M top L (holdC top (L.map ct) k).1 L' := by
  have := hold_any h (some ⟨X, 0, none⟩) cap [k] (by simpa using hk) (.inr ⟨X, 0, rfl, fun i k' hi => by
    cases i with
    | zero => simp at hi; subst hi; exact hX
    | succ i => simp at hi⟩) (fun _ b off e => by cases e; exact hM) (by simp [maxLen])
  rw [holdsC_one] at this
  exact this
end Go.Proofs.Ytbjlkmmijdhgoaa.cI

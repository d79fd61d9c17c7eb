/-
  Try, at any memory; at a nil one.
-/
import Derived.Test.YtcdolkbljheniaaCpE
namespace Go.Proofs.Ytcdolkbljheniaa
open Go.RowKit

/-- What a try makes of a copy and a memory. -/
def tryR (z : CZ) (x : MS) (wait : Bool) : Int × CZ × MS :=
  if (z.met x).2 = 15 ∧ wait = true then (15, z.wait (z.met x).1, x) else if (z.met x).2 = 0 then (0, z.done x, z.mem x) else (14, z.fail, x)
theorem CC.fail_in {w w2 : World} {L D c : Nat} {z : CZ} (h : CC w L D c z) (hc : Ch [c] w w2) (ho : z.out = false) {k1 k2 : Nat} (he : EndAt w2 L D c z k1 k2) (M : Option Addr) {S : List Nat} {R : World → Prop} (hR : ∀ w', Ch [] w2 w' → R w') :
    Calls Try.prog (endFn z.out) #[.pointer M, .bool false, .pointer (some ⟨k1, 0, none⟩), .pointer (some ⟨k2, 0, none⟩)] w2 fun e w' => ∃ v cap, e = .returned (.slice v z.n cap) ∧ Far w' L D c v cap (List.replicate z.n 0) ∧ Ch S w2 w' ∧ R w' := by
  rw [ho]
  refine (in_fail M h.hn (he.inn ho).2).mono ?_
  rintro e w' ⟨v, cap, rfl, h1, h2, h3, h4⟩
  have hlt := h.lt
  have hlo := h.lo
  have hDD := h.hD
  have hsz := hc.size
  exact ⟨v, cap, rfl, ⟨h1, fun y e => by have := h2 y e; omega, h3⟩, h4.mono (by simp), hR w' h4⟩
theorem CC.fail_out {w2 : World} {L D c : Nat} {z : CZ} (ho : z.out = true) {k1 k2 : Nat} (he : EndAt w2 L D c z k1 k2) (M : Option Addr) {S : List Nat} {R : World → Prop} (hR : ∀ w', Ch [] w2 w' → R w') :
    Calls Try.prog (endFn z.out) #[.pointer M, .bool false, .pointer (some ⟨k1, 0, none⟩), .pointer (some ⟨k2, 0, none⟩)] w2 fun e w' => ∃ v cap, e = .returned (.slice v z.n cap) ∧ Far w' L D c v cap z.bs ∧ Ch S w2 w' ∧ R w' := by
  rw [ho]
  obtain ⟨v, cap, h1, h2⟩ := he.outn ho
  refine (out_fail M h1).mono ?_
  rintro e w' ⟨rfl, rfl⟩
  exact ⟨v, cap, rfl, h2, Ch.refl _ _, hR _ (Ch.refl _ _)⟩
theorem try_fail {w : World} {L D c : Nat} {z : CZ} (h : CC w L D c z) (ho : z.over = false) (ht : z.t < 1000000) (M : Option Addr) (wait : Bool) {p q : Int}
    (hq : ((q == 0) = false ∧ (q == 15) = false) ∨ (q = 15 ∧ wait = false))
    (HT : ∀ w1, Ch [c] w w1 → Calls Try.prog 35 #[.agg #[.int .i64 z.a, .int .i64 (z.n : Int)], .pointer M] w1 fun e w' => e = .returned (.tuple #[.int .i64 p, .int .i64 q]) ∧ Ch [] w1 w') :
    Calls Try.prog 15 #[.pointer (some ⟨c, 0, none⟩), .pointer M, .bool wait] w fun e w' => e = .returned (.int .i64 14) ∧ CC w' L D c z.fail ∧ Ch [c] w w' := by
  have hcase : (false = true ∧ q = 0) ∨ (false = false ∧ (q == 0) = false ∧ (q == 15) = false) ∨ (false = false ∧ q = 15 ∧ wait = false) := by
    rcases hq with ⟨h1, h2⟩ | ⟨h1, h2⟩
    · exact .inr (.inl ⟨rfl, h1, h2⟩)
    · exact .inr (.inr ⟨rfl, h1, h2⟩)
  cases hz : z.out
  · refine (try_end h ho ht M wait false hcase HT (l := List.replicate z.n 0) (n := z.n) (by simp) h.hn (fun _ => rfl) (S := []) (by simp) (R := fun _ => True) (fun k1 k2 w2 hc he => h.fail_in hc hz he M (fun _ _ => trivial)) (fun _ _ _ _ => trivial) (E := 14) rfl).mono ?_
    rintro e w' ⟨rfl, h1, h2, -⟩
    exact ⟨rfl, by simpa [CZ.fail, hz] using h1, h2⟩
  · refine (try_end h ho ht M wait false hcase HT (l := z.bs) (n := z.n) (h.ho hz) h.hn (fun _ => rfl) (S := []) (by simp) (R := fun _ => True) (fun k1 k2 w2 hc he => CC.fail_out hz he M (fun _ _ => trivial)) (fun _ _ _ _ => trivial) (E := 14) rfl).mono ?_
    rintro e w' ⟨rfl, h1, h2, -⟩
    exact ⟨rfl, by simpa [CZ.fail, hz] using h1, h2⟩
/-- A nil memory fails. -/
theorem tryn_any {w : World} {L D c : Nat} {z : CZ} (h : CC w L D c z) (ho : z.over = false) (ht : z.t < 1000000) (wait : Bool) :
    Calls Try.prog 15 #[.pointer (some ⟨c, 0, none⟩), .pointer none, .bool wait] w fun e w' => e = .returned (.int .i64 14) ∧ CC w' L D c z.fail ∧ Ch [c] w w' :=
  try_fail h ho ht none wait (p := 0) (q := 6) (.inl ⟨rfl, rfl⟩) (fun w1 _ => nil_ptouch _ _ w1)
theorem try_any {w : World} {b : Nat} {x : MS} (h : UM w b x) {L D c : Nat} {z : CZ} (hc : CC w L D c z) (hb : b < L) (ho : z.over = false) (ht : z.t < 1000000) (wait : Bool) {E : Int} {z' : CZ} {x' : MS} (hR : tryR z x wait = (E, z', x')) :
    Calls Try.prog 15 #[.pointer (some ⟨c, 0, none⟩), .pointer (some ⟨b, 0, none⟩), .bool wait] w fun e w' => e = .returned (.int .i64 E) ∧ CC w' L D c z' ∧ UM w' b x' ∧ Ch [c, b] w w' := by
  have hbc : b ∉ [c] := by have := hc.lo; simp; omega
  obtain ⟨⟨p, q⟩, hpq⟩ : ∃ r, z.met x = r := ⟨_, rfl⟩
  have HT : ∀ w1, Ch [c] w w1 → Calls Try.prog 35 #[.agg #[.int .i64 z.a, .int .i64 (z.n : Int)], .pointer (some ⟨b, 0, none⟩)] w1 fun e w' => e = .returned (.tuple #[.int .i64 p, .int .i64 q]) ∧ Ch [] w1 w' :=
    fun w1 h1 => ptouch_any (h.ch h1 hbc) z.a z.n hc.ha hpq
  unfold tryR at hR
  rw [hpq] at hR
  simp only at hR
  have hcode := touch_code hpq
  by_cases h15 : q = 15 ∧ wait = true
  · rw [if_pos h15] at hR
    obtain ⟨rfl, rfl⟩ := h15
    cases hR
    refine (try_wait hc ho ht _ HT).mono ?_
    rintro e w' ⟨rfl, h1, h2⟩
    exact ⟨rfl, h1, h.ch h2 hbc, h2.mono (by simp)⟩
  · rw [if_neg h15] at hR
    by_cases h0 : q = 0
    · rw [if_pos h0] at hR
      subst h0
      have hin : wIn (16 * x.n) z.a z.n := by
        rcases hcode with ⟨_, h⟩ | ⟨h, _⟩ | ⟨h, _⟩ | ⟨h, _⟩
        · exact h
        · cases h
        · cases h
        · cases h
      cases hR
      cases hz : z.out
      · refine (try_end hc ho ht (some ⟨b, 0, none⟩) wait true (.inl ⟨rfl, rfl⟩) HT (l := peekL x.b z.a.toNat z.n) (n := z.n) (peekL_len _ _ _) hc.hn (fun _ => rfl) (S := []) (by simp) (R := fun w' => UM w' b x) ?_ (fun w1 w2 hu h2 => hu.ch h2 hbc) (E := 0) rfl).mono ?_
        · intro k1 k2 w2 hc2 he
          rw [hz]
          have hi := he.inn hz
          refine (in_done (h.ch hc2 hbc) hc.ha he.a0 hi.1 hin).mono ?_
          rintro e w' ⟨v, rfl, hn, h3⟩
          obtain ⟨a, cap, rfl, h4, h5, h6⟩ := hn.form2
          rw [peekL_len]
          have hlt := hc.lt
          have hlo := hc.lo
          have hDD := hc.hD
          have hsz := hc2.size
          exact ⟨a, cap, rfl, ⟨h4, fun y e => by have := h5 y e; omega, h6⟩, h3, (h.ch hc2 hbc).ch h3 (by simp)⟩
        · rintro e w' ⟨rfl, h1, h2, h3⟩
          exact ⟨rfl, by simpa [CZ.done, hz] using h1, by simpa [CZ.mem, hz] using h3, h2.mono (by simp)⟩
      · refine (try_end hc ho ht (some ⟨b, 0, none⟩) wait true (.inl ⟨rfl, rfl⟩) HT (l := z.bs) (n := z.n) (hc.ho hz) hc.hn (fun _ => rfl) (S := [b]) (by simpa using hb) (R := fun w' => UM w' b (pokeS x z.a z.bs)) ?_ (fun w1 w2 hu h2 => hu.ch h2 hbc) (E := 0) rfl).mono ?_
        · intro k1 k2 w2 hc2 he
          rw [hz]
          obtain ⟨v, cap, h1, h2⟩ := he.outn hz
          refine (out_done (h.ch hc2 hbc) (k2 := k2) (by have := he.l2; omega) hc.ha he.a0 h1 (hc.ho hz) hc.hn h2.1).mono ?_
          rintro e w' ⟨rfl, h3, h4⟩
          exact ⟨v, cap, rfl, h2.ch h4 (by simp; omega), h4, h3⟩
        · rintro e w' ⟨rfl, h1, h2, h3⟩
          exact ⟨rfl, by simpa [CZ.done, hz] using h1, by simpa [CZ.mem, hz] using h3, h2⟩
    · rw [if_neg h0] at hR
      cases hR
      refine (try_fail hc ho ht _ wait (p := p) (q := q) ?_ HT).mono ?_
      · by_cases hq : q = 15
        · right
          refine ⟨hq, ?_⟩
          cases wait
          · rfl
          · exact absurd ⟨hq, rfl⟩ h15
        · exact .inl ⟨by simpa using h0, by simpa using hq⟩
      · rintro e w' ⟨rfl, h1, h2⟩
        exact ⟨rfl, h1, h.ch h2 hbc, h2.mono (by simp)⟩
end Go.Proofs.Ytcdolkbljheniaa

/-
  The answer's Try, whatever comes of it.
-/
import Derived.Test.YtcdolkbljheniaaCpR
namespace Go.Proofs.Ytcdolkbljheniaa
open Go.RowKit

/-- A copy as the answer's value. -/
def gz (z : CZ) (v : Option Addr) (cap : Nat) : Value := .agg #[.bool z.out, .bool z.over, .bool z.waits, .int .i64 z.a, .int .i64 (z.n : Int), .int .i64 z.pageOf, .int .i64 (z.t : Int), .slice v z.bs.length cap]
theorem gz_of {z : CZ} {v : Option Addr} {cap n : Nat} {o ov wt : Bool} {a p t : Int} {m : Nat} (h1 : z.out = o) (h2 : z.over = ov) (h3 : z.waits = wt) (h4 : z.a = a) (h5 : z.n = n) (h6 : z.pageOf = p) (h7 : (z.t : Int) = t) (h8 : z.bs.length = m) :
    gz z v cap = .agg #[.bool o, .bool ov, .bool wt, .int .i64 a, .int .i64 (n : Int), .int .i64 p, .int .i64 t, .slice v m cap] := by
  unfold gz; rw [h1, h2, h3, h4, h5, h6, h7, h8]
theorem rtry_still {w : World} {g N cp : Nat} {z : CZ} (ho : z.over = true) (v : Option Addr) (cap : Nat) (wait : Bool) :
    Calls Try.prog 14 #[.slice (some ⟨g, 0, none⟩) N cp, gz z v cap, .bool wait] w fun e w' => e = .returned (.tuple #[.slice (some ⟨g, 0, none⟩) N cp, gz z v cap, .int .i64 6]) ∧ Ch [] w w' := by
  rw [gz_of (o := z.out) (ov := true) (wt := z.waits) (a := z.a) (n := z.n) (p := z.pageOf) (t := (z.t : Int)) (m := z.bs.length) rfl ho rfl rfl rfl rfl rfl rfl]
  exact rtry_over w _ _ _ _ _ _ _ _ _ _
theorem rtry_any {w : World} {g N cp : Nat} {x : MS} (r : RM w g N x.b (byPage x.s)) (hN : 16 * x.n = N) (hN0 : 0 < N) (hN2 : N ≤ 256) {z : CZ} (ho : z.over = false) (ht : z.t < 1000000) (hn : z.n ≤ 64) (hob : z.out = true → z.bs.length = z.n) {v : Option Addr} (cap : Nat) (hb : BytesAt w v z.bs) (hb2 : z.bs.length ≤ 64) (wait : Bool) {E : Int} {z' : CZ} {x' : MS} (hR : tryR z x wait = (E, z', x')) :
    Calls Try.prog 14 #[.slice (some ⟨g, 0, none⟩) N cp, gz z v cap, .bool wait] w fun e w' => ∃ g' cp' v' cap', e = .returned (.tuple #[.slice (some ⟨g', 0, none⟩) N cp', gz z' v' cap', .int .i64 E]) ∧
      RM w' g' N x'.b (byPage x'.s) ∧ BytesAt w' v' z'.bs ∧ Ch [] w w' ∧ (g' = g ∨ w.heap.size ≤ g') ∧ (∀ y, v' = some y → (v = some y ∧ z'.bs = z.bs) ∨ w.heap.size ≤ y.block) := by
  subst hN
  obtain ⟨⟨p, q⟩, hpq⟩ : ∃ r, z.met x = r := ⟨_, rfl⟩
  have hpq' : touchR (16 * x.n) (byPage x.s) z.a (z.n : Int) = (p, q) := hpq
  have hcode := touch_code hpq'
  rw [tryR_met z x wait hpq] at hR
  rw [gz_of (o := z.out) (ov := false) (wt := z.waits) (a := z.a) (n := z.n) (p := z.pageOf) (t := (z.t : Int)) (m := z.bs.length) rfl ho rfl rfl rfl rfl rfl rfl]
  by_cases h15 : q = 15 ∧ wait = true
  · rw [if_pos h15] at hR
    obtain ⟨h15, rfl⟩ := h15
    cases hR
    refine (rtry_wait (cp := cp) r hN2 z.out z.waits z.a z.n z.pageOf (T := z.t + 1) rfl ht v z.bs.length cap hpq' h15).mono ?_
    rintro e w' ⟨rfl, hc⟩
    refine ⟨g, cp, v, cap, ?_, r.ch hc (by simp), hb.ch hc (by simp), hc, .inl rfl, fun y e => .inl ⟨e, rfl⟩⟩
    have hw := CZ.waits_wait z p ho
    rw [gz_of (z := z.wait p) (o := z.out) (ov := false) (wt := true) (a := z.a) (n := z.n) (p := p) (t := ((z.t + 1 : Nat) : Int)) (m := z.bs.length) rfl ho hw rfl rfl (by unfold CZ.pageOf; rw [hw]; rfl) rfl rfl]
  · rw [if_neg h15] at hR
    by_cases h0 : q = 0
    · rw [if_pos h0] at hR
      have hin : wIn (16 * x.n) z.a z.n := by
        rcases hcode with ⟨_, h⟩ | ⟨h, _⟩ | ⟨h, _⟩ | ⟨h, _⟩
        · exact h
        all_goals rw [h0] at h; cases h
      cases hR
      have hw := CZ.waits_done z x
      cases hz : z.out
      · refine (rtry_done_in (cp := cp) r hN2 wait z.waits z.a z.n z.pageOf (T := z.t + 1) rfl ht v z.bs.length cap (l := peekL x.b z.a.toNat z.n) (by rw [if_pos hin]) hpq' h0).mono ?_
        rintro e w' ⟨v', n', c', rfl, hn', h1, hc, h2⟩
        rw [peekL_len] at hn'
        subst hn'
        have hbs : (z.done x).bs = peekL x.b z.a.toNat z.n := by simp [CZ.done, hz]
        have hmx : z.mem x = x := by simp [CZ.mem, hz]
        rw [hmx]
        refine ⟨g, cp, v', c', ?_, r.ch hc (by simp), by rw [hbs]; exact h1, hc, .inl rfl, fun y e => .inr (h2 y e)⟩
        rw [gz_of (z := z.done x) (o := false) (ov := true) (wt := false) (a := z.a) (n := z.n) (p := 0) (t := ((z.t + 1 : Nat) : Int)) (m := z.n) hz rfl hw rfl rfl (by unfold CZ.pageOf; rw [hw]; rfl) rfl (by rw [hbs, peekL_len])]
      · have hlen := hob hz
        refine (rtry_done_out (cp := cp) r hN2 wait hN0 z.waits z.a z.n z.pageOf (T := z.t + 1) rfl ht v z.bs.length cap (l := z.bs) rfl (by omega) hb rfl hpq' h0).mono ?_
        rintro e w' ⟨g', cp', rfl, h1, hc, hg⟩
        have hbs : (z.done x).bs = z.bs := by simp [CZ.done, hz]
        have hmx : z.mem x = ⟨x.n, x.s, pokeF x.b z.a.toNat z.bs⟩ := by unfold CZ.mem pokeS; rw [if_pos hz, if_pos (by rw [hlen]; exact hin)]
        rw [hmx]
        rw [if_pos (by rw [hlen]; exact hin)] at h1
        refine ⟨g', cp', v, cap, ?_, h1, by rw [hbs]; exact hb.ch hc (by simp), hc, hg, fun y e => .inl ⟨e, hbs⟩⟩
        rw [gz_of (z := z.done x) (o := true) (ov := true) (wt := false) (a := z.a) (n := z.n) (p := 0) (t := ((z.t + 1 : Nat) : Int)) (m := z.bs.length) hz rfl hw rfl rfl (by unfold CZ.pageOf; rw [hw]; rfl) rfl (by rw [hbs])]
    · rw [if_neg h0] at hR
      cases hR
      have hw := CZ.waits_fail z
      have hq : ((q == 0) = false ∧ (q == 15) = false) ∨ (q = 15 ∧ wait = false) := by
        by_cases hq : q = 15
        · right
          refine ⟨hq, ?_⟩
          cases wait
          · rfl
          · exact absurd ⟨hq, rfl⟩ h15
        · exact .inl ⟨by simpa using h0, by simpa using hq⟩
      cases hz : z.out
      · refine (rtry_fail_in (cp := cp) r hN2 wait z.waits z.a z.n z.pageOf (T := z.t + 1) rfl ht v z.bs.length cap hpq' hq hn).mono ?_
        rintro e w' ⟨v', rfl, h1, hc, h2⟩
        have hbs : z.fail.bs = List.replicate z.n 0 := by simp [CZ.fail, hz]
        refine ⟨g, cp, v', z.n, ?_, r.ch hc (by simp), by rw [hbs]; exact h1, hc, .inl rfl, fun y e => .inr (h2 y e)⟩
        rw [gz_of (z := z.fail) (o := false) (ov := true) (wt := false) (a := z.a) (n := z.n) (p := 0) (t := ((z.t + 1 : Nat) : Int)) (m := z.n) hz rfl hw rfl rfl (by unfold CZ.pageOf; rw [hw]; rfl) rfl (by rw [hbs]; simp)]
      · refine (rtry_fail_out (cp := cp) r hN2 wait z.waits z.a z.n z.pageOf (T := z.t + 1) rfl ht v z.bs.length cap hpq' hq).mono ?_
        rintro e w' ⟨rfl, hc⟩
        have hbs : z.fail.bs = z.bs := by simp [CZ.fail, hz]
        refine ⟨g, cp, v, cap, ?_, r.ch hc (by simp), by rw [hbs]; exact hb.ch hc (by simp), hc, .inl rfl, fun y e => .inl ⟨e, hbs⟩⟩
        rw [gz_of (z := z.fail) (o := true) (ov := true) (wt := false) (a := z.a) (n := z.n) (p := 0) (t := ((z.t + 1 : Nat) : Int)) (m := z.bs.length) hz rfl hw rfl rfl (by unfold CZ.pageOf; rw [hw]; rfl) rfl (by rw [hbs])]
end Go.Proofs.Ytcdolkbljheniaa

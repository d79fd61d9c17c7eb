/-
  CopyPaged: a copy that may wait is done, when each page that it asks for comes.
-/
import Derived.Test.YtcdolkbljheniaaCpG
namespace Go.Proofs.Ytcdolkbljheniaa
open Go.RowKit

/-- The pages of a piece, so far as they came; the next one is asked for. -/
theorem tch_next (s : Nat → Int) {k m F p : Nat} (hF : F = k / 16) (hFp : F ≤ p) (hm : 0 < m) (hp : 16 * p < k + m) (h1 : ∀ i, F ≤ i → i < p → s i = 1) (h0 : s p = 0) : tch (byPage s) k m = ((p : Int), 15) := by
  obtain ⟨d, hd⟩ : ∃ d, d = 16 * p - k := ⟨_, rfl⟩
  have hs := tch_skip (byPage s) d k m (by omega) (fun i h2 h3 => by
    unfold byPage
    rw [h1 (i / 16) (by omega) (by omega)]
    exact ⟨by decide, by decide⟩)
  rw [hs, tch_one0 s (by rw [show (k + d) / 16 = p by omega]; exact h0) (by omega), show (k + d) / 16 = p by omega]
theorem tch_all (s : Nat → Int) {k m F p : Nat} (hF : F = k / 16) (hp : m = 0 ∨ k + m ≤ 16 * p) (h1 : ∀ i, F ≤ i → i < p → s i = 1) : tch (byPage s) k m = (0, 0) := by
  have hs := tch_skip (byPage s) m k m (Nat.le_refl _) (fun i h2 h3 => by
    unfold byPage
    rw [h1 (i / 16) (by omega) (by omega)]
    exact ⟨by decide, by decide⟩)
  rw [hs, Nat.sub_self, tch_zero]
/-- A memory whose pages from F on came up to p. -/
structure Pgd (n F p : Nat) (B : Nat → Int) (x : MS) : Prop where
  n : x.n = n
  b : x.b = B
  s1 : ∀ i, F ≤ i → i < p → x.s i = 1
  s0 : ∀ i, p ≤ i → x.s i = 0
theorem Pgd.bring {n F p : Nat} {B : Nat → Int} {x : MS} (h : Pgd n F p B x) (hp : p < n) : turnE x (p : Int) 0 = 0 ∧ Pgd n F (p + 1) B (turnS x (p : Int) 0) := by
  have e : turnE x (p : Int) 0 = 0 := by
    unfold turnE
    rw [if_pos ⟨by omega, by have := h.n; omega⟩, Int.toNat_natCast, h.s0 p (Nat.le_refl _)]
    rfl
  refine ⟨e, ?_⟩
  unfold turnS
  rw [if_pos e]
  refine ⟨h.n, h.b, fun i h1 h2 => ?_, fun i h1 => ?_⟩
  · dsimp only
    rw [Int.toNat_natCast]
    by_cases e : i = p
    · subst e; rw [putF_same]; rfl
    · rw [putF_other _ _ e]; exact h.s1 i h1 (by omega)
  · dsimp only
    rw [Int.toNat_natCast, putF_other _ _ (by omega)]
    exact h.s0 i (by omega)

set_option maxRecDepth 100000 in
set_option maxHeartbeats 4000000 in
theorem paged_law {a0 a1 a2 : Int} (v : Option Addr) (len cap : Nat) (w : World) (hlc : len ≤ cap) (hlb : ∃ l : List Int, l.length = len ∧ BytesAt w v l) :
    Calls Try.prog 6 #[.int .i64 a0, .int .i64 a1, .int .i64 a2, .slice v len cap] w fun e w' => e = .returned (.bool true) ∧ Below w.heap.size w w' := by
  have u0 : 0 ≤ IntKind.u64.wrap a0 ∧ IntKind.u64.wrap a0 < 18446744073709551616 := by rw [IntKind.wrap_u64]; omega
  have u1 : 0 ≤ IntKind.u64.wrap a1 ∧ IntKind.u64.wrap a1 < 18446744073709551616 := by rw [IntKind.wrap_u64]; omega
  have u2 : 0 ≤ IntKind.u64.wrap a2 ∧ IntKind.u64.wrap a2 < 18446744073709551616 := by rw [IntKind.wrap_u64]; omega
  generalize hg0 : IntKind.u64.wrap a0 = U0 at u0
  generalize hg1 : IntKind.u64.wrap a1 = U1 at u1
  generalize hg2 : IntKind.u64.wrap a2 = U2 at u2
  obtain ⟨u00, u01⟩ := u0
  obtain ⟨n, hn0, h1, h16⟩ : ∃ n : Nat, 1 + U0 % 16 = (n : Int) ∧ 1 ≤ n ∧ n ≤ 16 := ⟨(1 + U0 % 16).toNat, by omega⟩
  obtain ⟨N, hN⟩ : ∃ N, 16 * n = N := ⟨_, rfl⟩
  have hN256 : N ≤ 256 := by omega
  have hw16 : IntKind.i64.wrap (16 * (n : Int)) = (N : Int) := by rw [IntWalk.i64_in _ (by omega)]; omega
  -- how many, and from where on
  obtain ⟨e3, he3⟩ : ∃ D : Nat, D = min 64 N := ⟨_, rfl⟩
  have hmin3 : (if (N : Int) < (64 : Int) then (N : Int) else (64 : Int)) = (e3 : Int) := by split <;> omega
  obtain ⟨D3, hD3⟩ : ∃ D : Nat, D = e3 + 1 := ⟨_, rfl⟩
  have hw3 : IntKind.i64.wrap ((e3 : Int) + 1) = (D3 : Int) := by rw [IntWalk.i64_in _ (by omega)]; omega
  have hv3 : IntKind.u64.wrap (D3 : Int) = (D3 : Int) := by rw [IntKind.wrap_u64]; omega
  have hd3 : ¬ (D3 : Int) = 0 := by omega
  obtain ⟨m, hm⟩ : ∃ m : Nat, U2 % (D3 : Int) = (m : Int) := ⟨(U2 % (D3 : Int)).toNat, by have := Int.emod_nonneg U2 hd3; omega⟩
  have hmN : m ≤ 64 ∧ m ≤ N := by have := Int.emod_lt_of_pos U2 (show (0 : Int) < (D3 : Int) by omega); omega
  have ht3 : Int.tmod U2 (D3 : Int) = (m : Int) := by rw [Int.tmod_eq_emod_of_nonneg u2.1]; exact hm
  obtain ⟨e2, he2⟩ : ∃ D : Nat, D = N - m := ⟨_, rfl⟩
  obtain ⟨D2, hD2⟩ : ∃ D : Nat, D = e2 + 1 := ⟨_, rfl⟩
  have hx2 : IntKind.i64.wrap ((N : Int) - (m : Int)) = (e2 : Int) := by rw [IntWalk.i64_in _ (by omega)]; omega
  have hw2 : IntKind.i64.wrap ((e2 : Int) + 1) = (D2 : Int) := by rw [IntWalk.i64_in _ (by omega)]; omega
  have hv2 : IntKind.u64.wrap (D2 : Int) = (D2 : Int) := by rw [IntKind.wrap_u64]; omega
  have hd2 : ¬ (D2 : Int) = 0 := by omega
  obtain ⟨k, hk⟩ : ∃ k : Nat, U1 % (D2 : Int) = (k : Int) := ⟨(U1 % (D2 : Int)).toNat, by have := Int.emod_nonneg U1 hd2; omega⟩
  have hkm : k + m ≤ N := by have := Int.emod_lt_of_pos U1 (show (0 : Int) < (D2 : Int) by omega); omega
  have ht2 : Int.tmod U1 (D2 : Int) = (k : Int) := by rw [Int.tmod_eq_emod_of_nonneg u1.1]; exact hk
  -- the bytes
  obtain ⟨l, hl, hb⟩ := hlb
  obtain ⟨m1, hm1⟩ : ∃ m, m = min len N := ⟨_, rfl⟩
  have hmin1 : (if N < len then (N : Int) else (len : Int)) = (m1 : Int) := by split <;> omega
  have hmc1 : (m1 : Int) ≤ (cap : Int) := by omega
  obtain ⟨L1, hL1⟩ : ∃ L, L = l.take m1 := ⟨_, rfl⟩
  have HL1 := Lib.hid (show L1.length = m1 ∧ BytesAt w v L1 from ⟨by rw [hL1, List.length_take]; omega, by rw [hL1]; exact hb.take m1⟩)
  have hm1N : m1 ≤ N := by omega
  -- the pages
  obtain ⟨F, hF⟩ : ∃ F, F = k / 16 := ⟨_, rfl⟩
  have hqF : Int.tdiv (k : Int) 16 = (F : Int) := by rw [Int.tdiv_eq_ediv_of_nonneg (by omega)]; omega
  have hwF : IntKind.i64.wrap (F : Int) = (F : Int) := IntWalk.i64_in _ (by omega)
  obtain ⟨s1, hs1⟩ : ∃ s, s = k + m := ⟨_, rfl⟩
  have hws1 : IntKind.i64.wrap ((k : Int) + (m : Int)) = (s1 : Int) := by rw [IntWalk.i64_in _ (by omega)]; omega
  obtain ⟨s2, hs2⟩ : ∃ s, s = s1 + 15 := ⟨_, rfl⟩
  have hws2 : IntKind.i64.wrap ((s1 : Int) + 15) = (s2 : Int) := by rw [IntWalk.i64_in _ (by omega)]; omega
  obtain ⟨G, hG⟩ : ∃ G, G = s2 / 16 := ⟨_, rfl⟩
  have hqG : Int.tdiv (s2 : Int) 16 = (G : Int) := by rw [Int.tdiv_eq_ediv_of_nonneg (by omega)]; omega
  have hwG : IntKind.i64.wrap (G : Int) = (G : Int) := IntWalk.i64_in _ (by omega)
  obtain ⟨b, hb⟩ : ∃ b, w.heap.size = b := ⟨_, rfl⟩
  have HNew := Lib.hid (UL.new w (Ch.refl [] w) h1 h16 hb)
  have HN := Lib.hid hN
  have hcase : (¬ 0 < m ∧ F ≤ F ∧ (∀ p, p < F → F ≤ p → 0 < m ∧ 16 * p < k + m) ∧ (m = 0 ∨ k + m ≤ 16 * F) ∧ F ≤ 100) ∨ (0 < m ∧ F ≤ G ∧ (∀ p, p < G → F ≤ p → 0 < m ∧ 16 * p < k + m) ∧ (m = 0 ∨ k + m ≤ 16 * G) ∧ G ≤ 100) := by
    by_cases h0 : 0 < m
    · exact .inr ⟨h0, by omega, fun p h2 h3 => by omega, by omega, by omega⟩
    · exact .inl ⟨h0, by omega, fun p h2 h3 => by omega, by omega, by omega⟩
  have HFF := Lib.hid hF
  clear hb hN hk hm u1 u2 he2 hD2 he3 hD3 hm1 hL1 hl hlc hs1 hs2 hG hF
  go_enter Try.func6, Try.ntmps6
  go_wp2_with fail
  clear hn0 hg0 u00 u01
  with_reducible refine HNew.out.mono ?_
  rintro e w1 ⟨rfl, hu1, -, -⟩
  have C := Lib.hid (hu1.inn (a := (k : Int)) (by omega) hmN.1 (m := (m : Int)) rfl)
  clear hu1 HNew
  go_wp2_with fail
  with_reducible refine C.out.mono ?_
  rintro e w2 ⟨c, rfl, hu2, -⟩
  clear C
  obtain ⟨L, hL⟩ : ∃ L, L = w1.heap.size := ⟨_, rfl⟩
  rw [← hL] at hu2
  have C := Lib.hid (hu2.u.poke (cap := cap) (e := 0) HN.out 0 (by decide) HL1.out.1 (by omega) (HL1.out.2.ch hu2.u.ch (by simp)) (piece_if ⟨by omega, by omega, by omega⟩) rfl)
  have HU2 := Lib.hid hu2
  clear hu2 hL
  go_wp2_with fail
  with_reducible refine C.out.mono ?_
  rintro e w3 ⟨rfl, hu3, hc3⟩
  clear C
  obtain ⟨y1, hy1⟩ : ∃ y, y = pokeS (MS.zero n) 0 L1 := ⟨_, rfl⟩
  rw [← hy1] at hu3
  obtain ⟨Bf, hB⟩ : ∃ B, B = y1.b := ⟨_, rfl⟩
  have HP3 := Lib.hid (show Pgd n F F Bf y1 from ⟨by rw [hy1, pokeS_n]; rfl, hB.symm, fun i h1 h2 => by omega, fun i _ => by rw [hy1]; unfold pokeS; split <;> rfl⟩)
  have H3 := Lib.hid (show UC w w3 b y1 L c c ⟨false, (k : Int), m, [], false, 0, 0⟩ from ⟨hu3, HU2.out.c.ch hc3 (by simpa using HU2.out.bL), HU2.out.bL⟩)
  clear hu3 hc3 hy1 hB HU2 HL1
  rcases hcase with ⟨hm0, hFL, hpp, hall, hLA⟩ | ⟨hm0, hFL, hpp, hall, hLA⟩
  · have HPP := Lib.hid hpp
    have HALL := Lib.hid hall
    have HFL := Lib.hid hFL
    have HLA := Lib.hid hLA
    clear hpp hall hFL hLA
    go_wp2_with fail
    go_loopw [15] (fun p wr => ∃ (j : Nat) (pg : Int) (x : MS), p = .int .i64 ((F + j : Nat) : Int) ∧ F + j ≤ F ∧ UC w wr b x L c c ⟨false, (k : Int), m, [], false, pg, j⟩ ∧ Pgd n F (F + j) Bf x) (fun p _ => F - (intOf p).toNat)
    case atStart => exact ⟨0, 0, y1, rfl, HFL.out, H3.out, HP3.out⟩
    case round =>
      obtain ⟨j, pg, x, rfl, hj, huc, hpg⟩ := hrel
      obtain ⟨p, hp⟩ : ∃ p, p = F + j := ⟨_, rfl⟩
      rw [← hp]
      rw [← hp] at hj hpg
      have HPJ := Lib.hid hp
      clear hp H3
      by_cases hlt : p < F
      · have hlt' : (p : Int) < (F : Int) := by omega
        obtain ⟨hm1, hm2⟩ := HPP.out p hlt (by have := HPJ.out; omega)
        have hmet : CZ.met ⟨false, (k : Int), m, [], false, pg, j⟩ x = ((p : Int), 15) := by
          unfold CZ.met touchR
          dsimp only
          rw [hpg.n, HN.out, if_pos ⟨by omega, by omega, by omega⟩, Int.toNat_natCast, Int.toNat_natCast]
          exact tch_next x.s HFF.out (by have := HPJ.out; omega) hm1 hm2 hpg.s1 (hpg.s0 p (Nat.le_refl _))
        have hR := tryR_met _ x true hmet
        rw [if_pos ⟨rfl, rfl⟩] at hR
        have C := Lib.hid (huc.try (E := 15) (z' := ⟨false, (k : Int), m, [], false, (p : Int), j + 1⟩) (x' := x) rfl (show j < 1000000 by have := HPJ.out; have := HLA.out; omega) true (by rw [hR]) (by rw [hR]; rfl) (by rw [hR]))
        have HG := Lib.hid hpg
        clear huc hR hmet hpg
        go_wp2_with fail
        with_reducible refine C.out.mono ?_
        rintro e w4 ⟨rfl, h4, -⟩
        clear C
        have C := Lib.hid (h4.page (p := (p : Int)) (q := true) (by simp [CZ.pageOf, CZ.waits]) (by simp [CZ.waits]))
        obtain ⟨hb0, hb1⟩ := HG.out.bring (by have := HN.out; omega)
        have C2 := Lib.hid (h4.turn0 hb0 rfl)
        have HB := Lib.hid hb1
        clear h4 hb0 hb1
        go_wp2_with fail
        with_reducible refine C.out.mono ?_
        rintro e w' ⟨rfl, rfl⟩
        clear C
        go_wp2_with fail
        with_reducible refine C2.out.mono ?_
        rintro e w5 ⟨rfl, h5, -⟩
        have H5 := Lib.hid h5
        have hw1 : IntKind.i64.wrap ((p : Int) + 1) = ((p + 1 : Nat) : Int) := by rw [IntWalk.i64_in _ (by omega)]; omega
        obtain ⟨p1, hp1⟩ : ∃ q, q = p + 1 := ⟨_, rfl⟩
        rw [← hp1] at hw1
        have HP1 := Lib.hid hp1
        clear C2 h5 hp1
        go_wp2_with fail
        go_roundw
        case rel => exact ⟨j + 1, (p : Int), _, by rw [HP1.out, HPJ.out]; rfl, by have := HPJ.out; omega, H5.out, by rw [← Nat.add_assoc, ← HPJ.out]; exact HB.out⟩
        case measure => simp [intOf]; have := HP1.out; omega
      · obtain rfl : F = p := by omega
        have hmet : CZ.met ⟨false, (k : Int), m, [], false, pg, j⟩ x = (0, 0) := by
          unfold CZ.met touchR
          dsimp only
          rw [hpg.n, HN.out, if_pos ⟨by omega, by omega, by omega⟩, Int.toNat_natCast, Int.toNat_natCast]
          exact tch_all x.s HFF.out HALL.out hpg.s1
        obtain rfl : j = 0 := by have := HPJ.out; omega
        have hmet2 : CZ.met ⟨false, (k : Int), m, [], false, pg, 0⟩ x = (0, 0) := hmet
        have hR := tryR_met _ x true hmet2
        rw [if_neg (by decide), if_pos rfl] at hR
        have C := Lib.hid (huc.peek (N := N) (by rw [hpg.n]; exact HN.out) (k : Int) (m : Int) (by omega) (e := 0) (piece_if ⟨by omega, by omega, by omega⟩) (l := peekL x.b k m) (by rw [if_pos ⟨by omega, by omega, by omega⟩]; rfl) (k := m) (peekL_len _ _ _))
        have HR := Lib.hid hR
        have HT := Lib.hid (show 0 < 1000000 by have := HPJ.out; have := HLA.out; omega)
        clear huc hR hmet hmet2 hpg hlt HPJ
        go_wp2_with fail
        with_reducible refine C.out.mono ?_
        rintro e w4 ⟨v4, cap4, rfl, hb4, hv4, h4, -⟩
        have H4 := Lib.hid h4
        have HB4 := Lib.hid hb4
        have HV4 := Lib.hid hv4
        clear C h4 hb4 hv4
        go_wp2_with fail
        with_reducible refine (known14 _).mono ?_
        rintro e w5 ⟨rfl, hk5⟩
        have h5 := H4.out.quiet hk5
        have C := Lib.hid (h5.try (E := 0) (z' := CZ.done ⟨false, (k : Int), m, [], false, pg, 0⟩ x) (x' := x) rfl HT.out true (by rw [HR.out]) (by rw [HR.out]) (by rw [HR.out]; rfl))
        have HB5 := Lib.hid (HB4.out.ch hk5 (by simp))
        clear hk5 h5 H4 HB4
        go_wp2_with fail
        with_reducible refine C.out.mono ?_
        rintro e w6 ⟨rfl, h6, hc6⟩
        have C := Lib.hid (h6.bytes (l := peekL x.b k m) (by simp [CZ.done]) (k := m) (peekL_len _ _ _))
        have HB6 := Lib.hid (HB5.out.ch hc6 HV4.out)
        clear h6 hc6 HB5 HV4
        go_wp2_with fail
        with_reducible refine C.out.mono ?_
        rintro e w7 ⟨v7, cap7, rfl, hb7, h7, hc7⟩
        have C := Lib.hid (same_any cap7 cap4 (n := m) (peekL_len _ _ _) (by omega) hb7 (HB6.out.ch hc7 (by simp)))
        have H7 := Lib.hid h7
        clear hb7 h7 hc7 HB6
        go_wp2_with fail
        with_reducible refine C.out.mono ?_
        rintro e w8 ⟨rfl, hc8⟩
        have h8 := H7.out.quiet hc8
        have C := Lib.hid (h8.tries (v := 1) rfl)
        have C2 := Lib.hid (try_over h8.c rfl (some ⟨b, 0, none⟩) true)
        have HZ := Lib.hid h8.u.ch
        clear hc8 h8 H7
        go_wp2_with fail
        with_reducible refine C.out.mono ?_
        rintro e w' ⟨rfl, rfl⟩
        clear C
        go_wp2_with fail
        with_reducible refine C2.out.mono ?_
        rintro e w' ⟨rfl, rfl⟩
        clear C2
        go_wp2_with fail
        go_ret
        exact ⟨rfl, HZ.out.below _ (by simp) (Nat.le_refl _)⟩
  · have HPP := Lib.hid hpp
    have HALL := Lib.hid hall
    have HFL := Lib.hid hFL
    have HLA := Lib.hid hLA
    clear hpp hall hFL hLA
    go_wp2_with fail
    go_loopw [15] (fun p wr => ∃ (j : Nat) (pg : Int) (x : MS), p = .int .i64 ((F + j : Nat) : Int) ∧ F + j ≤ G ∧ UC w wr b x L c c ⟨false, (k : Int), m, [], false, pg, j⟩ ∧ Pgd n F (F + j) Bf x) (fun p _ => G - (intOf p).toNat)
    case atStart => exact ⟨0, 0, y1, rfl, HFL.out, H3.out, HP3.out⟩
    case round =>
      obtain ⟨j, pg, x, rfl, hj, huc, hpg⟩ := hrel
      obtain ⟨p, hp⟩ : ∃ p, p = F + j := ⟨_, rfl⟩
      rw [← hp]
      rw [← hp] at hj hpg
      have HPJ := Lib.hid hp
      clear hp H3
      by_cases hlt : p < G
      · have hlt' : (p : Int) < (G : Int) := by omega
        obtain ⟨hm1, hm2⟩ := HPP.out p hlt (by have := HPJ.out; omega)
        have hmet : CZ.met ⟨false, (k : Int), m, [], false, pg, j⟩ x = ((p : Int), 15) := by
          unfold CZ.met touchR
          dsimp only
          rw [hpg.n, HN.out, if_pos ⟨by omega, by omega, by omega⟩, Int.toNat_natCast, Int.toNat_natCast]
          exact tch_next x.s HFF.out (by have := HPJ.out; omega) hm1 hm2 hpg.s1 (hpg.s0 p (Nat.le_refl _))
        have hR := tryR_met _ x true hmet
        rw [if_pos ⟨rfl, rfl⟩] at hR
        have C := Lib.hid (huc.try (E := 15) (z' := ⟨false, (k : Int), m, [], false, (p : Int), j + 1⟩) (x' := x) rfl (show j < 1000000 by have := HPJ.out; have := HLA.out; omega) true (by rw [hR]) (by rw [hR]; rfl) (by rw [hR]))
        have HG := Lib.hid hpg
        clear huc hR hmet hpg
        go_wp2_with fail
        with_reducible refine C.out.mono ?_
        rintro e w4 ⟨rfl, h4, -⟩
        clear C
        have C := Lib.hid (h4.page (p := (p : Int)) (q := true) (by simp [CZ.pageOf, CZ.waits]) (by simp [CZ.waits]))
        obtain ⟨hb0, hb1⟩ := HG.out.bring (by have := HN.out; omega)
        have C2 := Lib.hid (h4.turn0 hb0 rfl)
        have HB := Lib.hid hb1
        clear h4 hb0 hb1
        go_wp2_with fail
        with_reducible refine C.out.mono ?_
        rintro e w' ⟨rfl, rfl⟩
        clear C
        go_wp2_with fail
        with_reducible refine C2.out.mono ?_
        rintro e w5 ⟨rfl, h5, -⟩
        have H5 := Lib.hid h5
        have hw1 : IntKind.i64.wrap ((p : Int) + 1) = ((p + 1 : Nat) : Int) := by rw [IntWalk.i64_in _ (by omega)]; omega
        obtain ⟨p1, hp1⟩ : ∃ q, q = p + 1 := ⟨_, rfl⟩
        rw [← hp1] at hw1
        have HP1 := Lib.hid hp1
        clear C2 h5 hp1
        go_wp2_with fail
        go_roundw
        case rel => exact ⟨j + 1, (p : Int), _, by rw [HP1.out, HPJ.out]; rfl, by have := HPJ.out; omega, H5.out, by rw [← Nat.add_assoc, ← HPJ.out]; exact HB.out⟩
        case measure => simp [intOf]; have := HP1.out; omega
      · obtain rfl : G = p := by omega
        have hmet : CZ.met ⟨false, (k : Int), m, [], false, pg, j⟩ x = (0, 0) := by
          unfold CZ.met touchR
          dsimp only
          rw [hpg.n, HN.out, if_pos ⟨by omega, by omega, by omega⟩, Int.toNat_natCast, Int.toNat_natCast]
          exact tch_all x.s HFF.out HALL.out hpg.s1
        have hmet2 : CZ.met ⟨false, (k : Int), m, [], false, pg, j⟩ x = (0, 0) := hmet
        have hR := tryR_met _ x true hmet2
        rw [if_neg (by decide), if_pos rfl] at hR
        have C := Lib.hid (huc.peek (N := N) (by rw [hpg.n]; exact HN.out) (k : Int) (m : Int) (by omega) (e := 0) (piece_if ⟨by omega, by omega, by omega⟩) (l := peekL x.b k m) (by rw [if_pos ⟨by omega, by omega, by omega⟩]; rfl) (k := m) (peekL_len _ _ _))
        have HR := Lib.hid hR
        have HT := Lib.hid (show j < 1000000 by have := HPJ.out; have := HLA.out; omega)
        obtain ⟨j1, hj1⟩ : ∃ t, t = j + 1 := ⟨_, rfl⟩
        have hws : IntKind.i64.wrap ((G : Int) - (F : Int)) = (j : Int) := by rw [IntWalk.i64_in _ (by have := HPJ.out; have := HLA.out; omega)]; have := HPJ.out; omega
        have hwj : IntKind.i64.wrap ((j : Int) + 1) = (j1 : Int) := by rw [IntWalk.i64_in _ (by have := HPJ.out; have := HLA.out; omega)]; omega
        have HJ1 := Lib.hid hj1
        clear huc hR hmet hmet2 hpg hlt HPJ hj1
        go_wp2_with fail
        with_reducible refine C.out.mono ?_
        rintro e w4 ⟨v4, cap4, rfl, hb4, hv4, h4, -⟩
        have H4 := Lib.hid h4
        have HB4 := Lib.hid hb4
        have HV4 := Lib.hid hv4
        clear C h4 hb4 hv4
        go_wp2_with fail
        with_reducible refine (known14 _).mono ?_
        rintro e w5 ⟨rfl, hk5⟩
        have h5 := H4.out.quiet hk5
        have C := Lib.hid (h5.try (E := 0) (z' := CZ.done ⟨false, (k : Int), m, [], false, pg, j⟩ x) (x' := x) rfl HT.out true (by rw [HR.out]) (by rw [HR.out]) (by rw [HR.out]; rfl))
        have HB5 := Lib.hid (HB4.out.ch hk5 (by simp))
        clear hk5 h5 H4 HB4
        go_wp2_with fail
        with_reducible refine C.out.mono ?_
        rintro e w6 ⟨rfl, h6, hc6⟩
        have C := Lib.hid (h6.bytes (l := peekL x.b k m) (by simp [CZ.done]) (k := m) (peekL_len _ _ _))
        have HB6 := Lib.hid (HB5.out.ch hc6 HV4.out)
        clear h6 hc6 HB5 HV4
        go_wp2_with fail
        with_reducible refine C.out.mono ?_
        rintro e w7 ⟨v7, cap7, rfl, hb7, h7, hc7⟩
        have C := Lib.hid (same_any cap7 cap4 (n := m) (peekL_len _ _ _) (by omega) hb7 (HB6.out.ch hc7 (by simp)))
        have H7 := Lib.hid h7
        clear hb7 h7 hc7 HB6
        go_wp2_with fail
        with_reducible refine C.out.mono ?_
        rintro e w8 ⟨rfl, hc8⟩
        have h8 := H7.out.quiet hc8
        have C := Lib.hid (h8.tries (v := (j1 : Int)) (by show ((j + 1 : Nat) : Int) = (j1 : Int); rw [HJ1.out]))
        have C2 := Lib.hid (try_over h8.c rfl (some ⟨b, 0, none⟩) true)
        have HZ := Lib.hid h8.u.ch
        clear hc8 h8 H7
        go_wp2_with fail
        with_reducible refine C.out.mono ?_
        rintro e w' ⟨rfl, rfl⟩
        clear C
        go_wp2_with fail
        with_reducible refine C2.out.mono ?_
        rintro e w' ⟨rfl, rfl⟩
        clear C2
        go_wp2_with fail
        go_ret
        exact ⟨rfl, HZ.out.below _ (by simp) (Nat.le_refl _)⟩
end Go.Proofs.Ytcdolkbljheniaa

/-
  The program's Bytes.
-/
import Derived.Test.YtgldkalagmjkfaaDoorIsN
import Derived.Laws.AppendOwnNone
namespace Go.Proofs.YtgldkalagmjkfaaDoor
open Go.RowKit

attribute [local go_sem] Oper.semAt_some

theorem cells_two (w : World) (x y : Value) (t : TypeId) : ∀ j u, [x, y][j]? = some u → (w.alloc (.cells #[x, y] t)).cell? ((⟨w.heap.size, 0, none⟩ : Addr).add j) = some u := cell_two_new w x y t
theorem cells_four (w : World) (x y z v : Value) (t : TypeId) : ∀ j u, [x, y, z, v][j]? = some u → (w.alloc (.cells #[x, y, z, v] t)).cell? ((⟨w.heap.size, 0, none⟩ : Addr).add j) = some u := by
  intro j u hj
  rw [addr_add, Nat.zero_add, World.cell?_alloc_at _ _ _ _ rfl]
  match j, hj with
  | 0, hj => simpa using hj
  | 1, hj => simpa using hj
  | 2, hj => simpa using hj
  | 3, hj => simpa using hj

/-- An instruction in a block of its own. -/
def Bx5 (w : World) (b : Nat) (x : I5) : Prop := w.heap[b]? = some (.cells #[.int .i64 x.op, .int .i64 x.d, .int .i64 x.s, .int .i64 x.o, .int .i64 x.i] 34)
theorem Bx5.new (w : World) (x : I5) : Bx5 (w.alloc (.cells #[.int .i64 x.op, .int .i64 x.d, .int .i64 x.s, .int .i64 x.o, .int .i64 x.i] 34)) w.heap.size x := by
  unfold Bx5
  show (w.heap.push _)[w.heap.size]? = _
  simp
theorem Bx5.lt {w : World} {b : Nat} {x : I5} (h : Bx5 w b x) : b < w.heap.size := (Array.getElem?_eq_some_iff.1 h).1
theorem Bx5.ch {S : List Nat} {w w' : World} {b : Nat} {x : I5} (h : Bx5 w b x) (hc : Ch S w w') (hb : b ∉ S) : Bx5 w' b x := (hc.block b h.lt hb).trans h
theorem Bx5.grown {w w' : World} {b : Nat} {x : I5} {row : Option Nat} (h : Bx5 w b x) (hg : w.grownBy w' row) (hr : some b ≠ row) : Bx5 w' b x := (hg.block b h.lt hr).trans h
theorem Bx5.five {w : World} {b : Nat} {x : I5} (h : Bx5 w b x) : Five w b x := by
  unfold Bx5 at h
  constructor <;> simp [World.cell?, h]
theorem Bx5.apart {w : World} {b lo n : Nat} {x : I5} {v : Value} {xs : List Value} (h : Bx5 w b x) (ho : w.ownsRow lo 5 1 v n xs) : some b ≠ v.ownBlock := by
  intro e
  unfold Bx5 at h
  rcases ho.2 with ⟨rfl, _⟩ | ⟨g, cap, cur, rfl, _, hg, _⟩
  · simp [Value.ownBlock] at e
  · have : b = g := by simpa [Value.ownBlock] using e
    subst this
    rw [h] at hg
    simp at hg
theorem own_new {w w' : World} {a : World} {lo e s m : Nat} {v : Value} {ys : List Value} (h : Ch [] a w) (hg : w.grownBy w' v.ownBlock) (hlo : a.heap.size ≤ lo) (hv : w.ownsRow lo e s v m ys) : Ch [] a w' := by
  refine h.kept hg (fun r hr => ?_)
  rcases hv.2 with ⟨rfl, _⟩ | ⟨g, cap, cur, rfl, hb, _⟩
  · simp [Value.ownBlock] at hr
  · have : g = r := by simpa [Value.ownBlock] using hr
    omega

theorem row_step {a w w' : World} {lo b m : Nat} {v : Value} {x : I5} {xs : List Value} {C : Array Value} (hr : w.ownsRow lo 5 1 v m xs) (hb : Bx5 w b x) (hc : Ch [] a w) (hlo : a.heap.size ≤ lo) (hg : (w.alloc (.cells C 5)).grownBy w' v.ownBlock) : Bx5 w' b x ∧ Ch [] a w' :=
  have hb2 := hb.ch ((Ch.refl [] w).alloc (.cells C 5)) (by simp)
  ⟨hb2.grown hg (hb2.apart (hr.alloc _)), own_new (hc.alloc _) hg hlo (hr.alloc _)⟩

theorem ckBounds {x : I5} (h : chk x = 0) : 0 ≤ x.op ∧ x.op < 74 ∧ 0 ≤ x.d ∧ x.d ≤ 9 ∧ 0 ≤ x.s ∧ x.s ≤ 9 ∧ -32768 ≤ x.o ∧ x.o ≤ 32767 ∧ -2147483648 ≤ x.i ∧ x.i ≤ 2147483647 := by
  obtain ⟨c, ⟨h1, h2, h3, h4, h5, h6, h7, h8⟩, _⟩ := chk_zero h
  obtain ⟨k0, k1⟩ := in74 c
  exact ⟨k0, k1, h1, h2, h3, h4, h5, h6, h7, h8⟩

set_option maxHeartbeats 2000000 in
theorem bytes_any {w : World} {a : Option Addr} {n cap : Nat} {L : List I5} (hn : L.length = n) (hn2 : n ≤ 1000) (hL : InsAt w a L) (hfit : ∀ x ∈ L, Fit x) :
    Calls Tryd.prog 18 #[.slice a n cap] w fun e w' => (firstE L ≠ 0 ∧ e = .returned (.tuple #[.slice none 0 0, .int .i64 (firstE L)]) ∨ firstE L = 0 ∧ ∃ v, e = .returned (.tuple #[v, .int .i64 0]) ∧ NB w' w.heap.size v (encL L)) ∧ Ch [] w w' := by
  obtain ⟨i0, hI, hz0, hz1, hz2⟩ : ∃ i : TypeInfo, Tryd.prog.info? 5 = some i ∧ i.zero = some (.int .u8 0) ∧ i.size = 1 ∧ i.bytes = 1 := by
    refine ⟨_, rfl, by kernel_rfl, by kernel_rfl, by kernel_rfl⟩
  have HN := Lib.hid hn
  have HL := Lib.hid hL
  have HF := Lib.hid hfit
  clear hn hL hfit
  go_enter Tryd.func18, Tryd.ntmps18
  go_wp2_with fail
  go_loopw [4, 10] (fun v i wr => ∃ j : Nat, i = .int .i64 (j : Int) ∧ j ≤ n ∧ NB wr w.heap.size v (encL (L.take j)) ∧ Ch [] w wr ∧ ∀ i (hi : i < L.length), i < j → chk L[i] = 0) (fun _ i _ => n - (intOf i).toNat)
  case atStart => exact ⟨0, rfl, Nat.zero_le _, NB.nil _ _, Ch.refl _ _, fun _ _ h => absurd h (by omega)⟩
  case round =>
    obtain ⟨j, rfl, hj, hnb, hch, hall⟩ := hrel
    have HA := Lib.hid hall
    have HC := Lib.hid hch
    have HB := Lib.hid hnb
    by_cases hlt : j < n
    · have hjl : j < L.length := by rw [HN.out]; exact hlt
      have hlt' : (j : Int) < (n : Int) := by omega
      have hk := HL.out.ch hch (by simp)
      have hx := HF.out L[j] (List.getElem_mem hjl)
      rcases hk with h0 | ⟨b, off, rfl, hk⟩
      · exfalso; rw [h0] at hjl; simp at hjl
      · have hf := hk j hjl
        have HE := Lib.hid (fun (h : chk L[j] ≠ 0) => firstE_at hjl HA.out h)
        have HT := Lib.hid (show L.take (j + 1) = L.take j ++ [L[j]] from List.take_succ_eq_append_getElem hjl)
        have HO := Lib.hid (fun (h : chk L[j] = 0) (k : Nat) (hk : k < L.length) (hkj : k < j + 1) => show chk L[k] = 0 by
          by_cases e : k = j
          · subst e; exact h
          · exact HA.out k hk (by omega))
        generalize L[j] = x at *
        have HCk := Lib.hid (fun w => check_any hx w)
        obtain ⟨op, d, s, o, i⟩ := x
        have HF5 := Lib.hid (Five.new wr ⟨op, d, s, o, i⟩ 34)
        have HC1 := Lib.hid (hch.alloc (.cells #[.int .i64 op, .int .i64 d, .int .i64 s, .int .i64 o, .int .i64 i] 34))
        have HX := Lib.hid hx
        unfold iv at *
        obtain ⟨c0, c1, c2, c3, c4⟩ := hf
        obtain ⟨a0, a1, a2, a3, a4⟩ := HF5.out
        simp only at c0 c1 c2 c3 c4 a0 a1 a2 a3 a4 HCk HE
        obtain ⟨av, ac, rfl, -, -⟩ := hnb.form
        by_cases hz : chk ⟨op, d, s, o, i⟩ = 0
        · rw [hz] at HCk
          have HZ := Lib.hid hz
          clear hk hx hch hall hnb hz
          have hr1 := ckBounds HZ.out
          simp only at hr1
          have q0 : IntKind.u8.wrap op = op % 256 := by rw [IntKind.wrap_u8]
          have q1 : IntKind.i64.wrap (16 * d) = 16 * d := by rw [IntKind.wrap_i64]; omega
          have q2 : IntKind.i64.wrap (16 * d + s) = 16 * d + s := by rw [IntKind.wrap_i64]; omega
          have q3 : IntKind.u8.wrap (16 * d + s) = (16 * d + s) % 256 := by rw [IntKind.wrap_u8]
          have q4 : IntKind.u8.wrap o = o % 256 := by rw [IntKind.wrap_u8]
          have q5 : IntKind.u8.wrap i = i % 256 := by rw [IntKind.wrap_u8]
          obtain ⟨e0, g0⟩ : ∃ z, op % 256 = z := ⟨_, rfl⟩
          obtain ⟨e1, g1⟩ : ∃ z, (16 * d + s) % 256 = z := ⟨_, rfl⟩
          obtain ⟨e2, g2⟩ : ∃ z, o % 256 = z := ⟨_, rfl⟩
          obtain ⟨e3, g3⟩ : ∃ z, (o / 256) % 256 = z := ⟨_, rfl⟩
          obtain ⟨e4, g4⟩ : ∃ z, i % 256 = z := ⟨_, rfl⟩
          obtain ⟨e5, g5⟩ : ∃ z, (i / 256) % 256 = z := ⟨_, rfl⟩
          obtain ⟨e6, g6⟩ : ∃ z, (i / 65536) % 256 = z := ⟨_, rfl⟩
          obtain ⟨e7, g7⟩ : ∃ z, (i / 16777216) % 256 = z := ⟨_, rfl⟩
          have HEn := Lib.hid (show enc ⟨op, d, s, o, i⟩ = [e0, e1, e2, e3, e4, e5, e6, e7] by unfold enc; simp only [g0, g1, g2, g3, g4, g5, g6, g7])
          rw [g0] at q0
          rw [g1] at q3
          rw [g2] at q4
          rw [g4] at q5
          clear g0 g1 g2 g4 hr1
          go_wp2_with (first
            | (with_reducible refine (HCk.out _).mono ?_; rintro e w1 ⟨rfl, hc1⟩; refine Hid.out ?_)
            | fail)
          refine Lib.hid ?_
          have HB1 := Lib.hid (own_ch (own_ch HB.out ((Ch.refl [] wr).alloc (.cells #[.int .i64 op, .int .i64 d, .int .i64 s, .int .i64 o, .int .i64 i] 34)) (by simp)) hc1 (by simp))
          have HC2 := Lib.hid (HC1.out.trans hc1)
          have HK1 := Lib.hid ((Bx5.new wr ⟨op, d, s, o, i⟩).ch hc1 (by simp))
          obtain ⟨m, hm⟩ : ∃ m, (encL (L.take j)).length = m := ⟨_, rfl⟩
          have HM := Lib.hid hm
          have hm2 : m ≤ 8000 := by rw [← hm, encL_len, List.length_take]; omega
          rw [hm] at HB1 ⊢
          obtain ⟨b0, b1, b2, b3, b4⟩ := HK1.out.five
          simp only at b0 b1 b2 b3 b4
          clear hm hc1 a0 a1 a2 a3 a4 c0 c1 c2 c3 c4
          go_wp2_with (at_builtin; go_must (refine wpList_append_own _ rfl _ _ 40 rfl w.heap.size 5 i0 (.int .u8 0) 1 1 Tryd.underlying40 hI hz0 hz1 hz2 rfl (by decide) _ m (u8s (encL (L.take j))) rfl (HB1.out.alloc _) ⟨w1.heap.size, 0, none⟩ 2 2 [.int .u8 e0, .int .u8 e1] rfl rfl (cells_two w1 _ _ _) (by simp [Value.oneCell']) (by unfold maxLen; omega) (by omega) (by have := HC2.out.size; simp; omega) ?_); intro v2 w2 hown2 hgrow2 hnil2; refine Hid.out ?_)
          refine Lib.hid ?_
          have hst := row_step HB1.out HK1.out HC2.out (Nat.le_refl _) hgrow2
          have HK3 := Lib.hid hst.1
          have HC3 := Lib.hid hst.2
          have HB3 := Lib.hid hown2
          obtain ⟨av2, ac2, rfl⟩ := own_form hown2
          obtain ⟨b0, b1, b2, b3, b4⟩ := HK3.out.five
          simp only at b0 b1 b2 b3 b4
          clear hgrow2 hown2 hnil2 HB1 HC2 HK1 hst
          go_wp2_with (at_builtin; go_must (refine wpList_append_own _ rfl _ _ 40 rfl w.heap.size 5 i0 (.int .u8 0) 1 1 Tryd.underlying40 hI hz0 hz1 hz2 rfl (by decide) _ (m + 2) (u8s (encL (L.take j)) ++ [.int .u8 e0, .int .u8 e1]) rfl (HB3.out.alloc _) ⟨w2.heap.size, 0, none⟩ 2 2 [.int .u8 e2, .int .u8 e3] rfl rfl (cells_two w2 _ _ _) (by simp [Value.oneCell']) (by unfold maxLen; omega) (by omega) (by have := HC3.out.size; simp; omega) ?_); intro v4 w4 hown2 hgrow2 hnil2; refine Hid.out ?_)
          refine Lib.hid ?_
          have hst := row_step HB3.out HK3.out HC3.out (Nat.le_refl _) hgrow2
          have HK4 := Lib.hid hst.1
          have HC4 := Lib.hid hst.2
          have HB4 := Lib.hid hown2
          obtain ⟨av4, cv4, rfl⟩ := own_form hown2
          obtain ⟨b0, b1, b2, b3, b4⟩ := HK4.out.five
          simp only at b0 b1 b2 b3 b4
          clear hgrow2 hown2 hnil2 hst HB3 HC3 HK3
          go_wp2_with (at_builtin; go_must (refine wpList_append_own _ rfl _ _ 40 rfl w.heap.size 5 i0 (.int .u8 0) 1 1 Tryd.underlying40 hI hz0 hz1 hz2 rfl (by decide) _ (m + 2 + 2) (u8s (encL (L.take j)) ++ [.int .u8 e0, .int .u8 e1] ++ [.int .u8 e2, .int .u8 e3]) rfl (HB4.out.alloc _) ⟨w4.heap.size, 0, none⟩ 4 4 [.int .u8 e4, .int .u8 e5, .int .u8 e6, .int .u8 e7] rfl rfl (cells_four w4 _ _ _ _ _) (by simp [Value.oneCell']) (by unfold maxLen; omega) (by omega) (by have := HC4.out.size; simp; omega) ?_); intro v5 w5 hown2 hgrow2 hnil2; refine Hid.out ?_)
          refine Lib.hid ?_
          have hst := row_step HB4.out HK4.out HC4.out (Nat.le_refl _) hgrow2
          have HK5 := Lib.hid hst.1
          have HC5 := Lib.hid hst.2
          have HB5 := Lib.hid hown2
          obtain ⟨av5, cv5, rfl⟩ := own_form hown2
          obtain ⟨b0, b1, b2, b3, b4⟩ := HK5.out.five
          simp only at b0 b1 b2 b3 b4
          clear hgrow2 hown2 hnil2 hst HB4 HC4 HK4
          go_wp2_with fail
          go_roundw
          case rel =>
            refine ⟨j + 1, by go_num, by omega, ?_, HC5.out, HO.out HZ.out⟩
            have h5 := HB5.out
            rw [HT.out, encL_snoc, HEn.out]
            refine NB.more (n := m + 2 + 2 + 4) (by rw [HM.out]; rfl) ?_
            simpa [u8s] using h5
          case measure => simp [intOf]; omega
        · have hzb : (chk ⟨op, d, s, o, i⟩ != 0) = true := by simpa using hz
          have HE2 := Lib.hid (HE.out hz)
          have HZ := Lib.hid hz
          generalize chk ⟨op, d, s, o, i⟩ = c at *
          clear hk hx hch hall hnb hz
          go_wp2_with (first
            | (with_reducible refine (HCk.out _).mono ?_; rintro e w1 ⟨rfl, hc1⟩; have HC2 := Lib.hid (HC1.out.trans hc1); clear hc1)
            | fail)
          go_ret2
          exact ⟨.inl ⟨by rw [HE2.out]; exact HZ.out, by rw [HE2.out]; rfl⟩, HC2.out⟩
    · obtain rfl : j = n := by omega
      have HE := Lib.hid (firstE_none fun k hk => HA.out k hk (by rw [← HN.out]; exact hk))
      have HT := Lib.hid (show L.take L.length = L from List.take_length)
      clear hnb hch hall hlt hj
      go_wp2
      go_ret2
      refine ⟨.inr ⟨HE.out, _, rfl, ?_⟩, HC.out⟩
      have hb := HB.out
      rw [← HN.out, HT.out] at hb
      exact hb
end Go.Proofs.YtgldkalagmjkfaaDoor

/-
  BankApart, walked.
-/
import Derived.Test.YtnndofeomakpiaaDoorBkAll
namespace Go.Proofs.YtnndofeomakpiaaDoor
open Go.RowKit Go.Maps

attribute [local go_sem] Oper.semAt_some

theorem BL.late2 {w0 w : World} {K n : Nat} {f : Nat → Wh} (h : BL w0 w K n f) (hT : Mk.Tab w0) (d : Int) :
    Calls Tryd.prog 8 #[.pointer (some ⟨K, 0, none⟩), .int .u64 d] w fun e W' => e = .returned (.int .u64 ((lateN f n d : Nat) : Int)) ∧ Ch [] w W' := h.late hT d
theorem without_one {M : Nat} (hM : M < 18446744073709551616) (i : Nat) (W : World) (t : TypeId) :
    Calls Tryd.prog 11 #[.int .u64 (M : Int), .slice (some ⟨W.heap.size, 0, none⟩) 1 1] (W.alloc (.cells #[.int .i64 ((i : Nat) : Int)] t)) fun e w' => e = .returned (.int .u64 ((Mk.withoutN M [(i : Int)] : Nat) : Int)) ∧ (W.alloc (.cells #[.int .i64 ((i : Nat) : Int)] t)) = w' :=
  Mk.without_any M hM (some ⟨W.heap.size, 0, none⟩) 1 [(i : Int)] _ (by simp) (.inr ⟨W.heap.size, 0, rfl, fun j hj => by
    obtain rfl : j = 0 := by simpa using hj
    rw [World.cell?_alloc_at _ _ _ _ rfl]
    rfl⟩)
theorem outs_late {L : List Tm} (d : Int) : (0 < (outs L d).length ↔ lateB L d = true) := by
  rw [lateB_iff, List.length_pos_iff_exists_mem]
  constructor
  · rintro ⟨x, hx⟩
    obtain ⟨t, ht, h2, _⟩ := outs_mem.1 hx
    exact ⟨t, ht, h2⟩
  · rintro ⟨t, ht, h2⟩
    exact ⟨t.id, outs_mem.2 ⟨t, ht, h2, rfl⟩⟩
set_option maxRecDepth 100000 in
set_option maxHeartbeats 4000000 in
theorem apart_law (a0 : Int) {now : Int} (hn : Wd now) (a : Option Addr) (len cap : Nat) (z : Nat → Int) (a3 : Int) {d : Int} (hd0 : Wd d) (w : World) (hT : Mk.Tab w) (hlc : len ≤ cap) (hcm : cap ≤ 9223372036854775807) (hz : WordsAt w a len z) :
    Calls Tryd.prog 3 #[.int .i64 a0, .int .u64 now, .slice a len cap, .int .i64 a3, .int .u64 d] w fun e w' => e = .returned (.bool true) ∧ Below w.heap.size w w' := by
  have HT := Lib.hid hT
  have HZ := Lib.hid hz
  have HD := Lib.hid hd0
  have hlm : (len : Int) ≤ 9223372036854775807 := by omega
  have u0 : 0 ≤ IntKind.u64.wrap a0 ∧ IntKind.u64.wrap a0 < 18446744073709551616 := by rw [IntKind.wrap_u64]; omega
  have u3 : 0 ≤ IntKind.u64.wrap a3 ∧ IntKind.u64.wrap a3 < 18446744073709551616 := by rw [IntKind.wrap_u64]; omega
  generalize hg0 : IntKind.u64.wrap a0 = U0 at u0
  generalize hg3 : IntKind.u64.wrap a3 = U3 at u3
  obtain ⟨u00, u01⟩ := u0
  obtain ⟨u30, u31⟩ := u3
  obtain ⟨n, hr0, hr1, hr2⟩ : ∃ n : Nat, 1 + U0 % 64 = (n : Int) ∧ 1 ≤ n ∧ n ≤ 64 := ⟨(1 + U0 % 64).toNat, by omega⟩
  have hnw : IntKind.u64.wrap (n : Int) = (n : Int) := by rw [IntKind.wrap_u64]; omega
  obtain ⟨c, hc1, hcn⟩ : ∃ c : Nat, U3 % (n : Int) = (c : Int) ∧ c < n := ⟨(U3 % (n : Int)).toNat, by have := Int.emod_nonneg U3 (show (n : Int) ≠ 0 by omega); omega, by have := Int.emod_lt_of_pos U3 (show (0 : Int) < (n : Int) by omega); have := Int.emod_nonneg U3 (show (n : Int) ≠ 0 by omega); omega⟩
  have hc2 : U3.tmod (n : Int) = (c : Int) := by rw [Int.tmod_eq_emod_of_nonneg u30]; exact hc1
  obtain ⟨m, hmin, hm1, hm2⟩ : ∃ m : Nat, min (len : Int) 64 = (m : Int) ∧ m ≤ 64 ∧ m ≤ len := ⟨min len 64, by omega, by omega, by omega⟩
  have HN := Lib.hid (BL.newB w hr1 hr2 hn)
  have hn0 : ¬ (n : Int) = 0 := by omega
  have hn1 : ¬ n = 0 := by omega
  have HCn := Lib.hid hcn
  have hc64 : c < 64 := by omega
  have HU := Lib.hid (And.intro u30 u31)
  clear hT hz hn hlc hcm hd0 u30 u31 hcn
  go_enter Tryd.func3, Tryd.ntmps3
  go_wp2_with fail
  with_reducible refine HN.out.mono ?_
  rintro e w1 ⟨K, Bs, rfl, hb⟩
  have HB := Lib.hid hb
  clear hb hg0 hr0 u00 u01 hg3 hc1 hc2 hnw
  go_frame
  go_wp2_with fail
  clear hmin
  go_loopw [14] (fun ix wr => ∃ (k : Nat) (f : Nat → Wh), k ≤ m ∧ ix = .int .i64 (k : Int) ∧ BL w wr K n f ∧ PW n k now f) (fun ix _ => m - (intOf ix).toNat)
  case atStart =>
    refine ⟨0, _, Nat.zero_le _, rfl, HB.out, ?_⟩
    by_cases hm : now = 18446744073709551615
    · exact .inr ⟨hm, fun _ _ => ⟨rfl, rfl⟩⟩
    · exact .inl ⟨hm, PutInv.zero n Bs now⟩
  case round =>
    obtain ⟨k, f, hk, rfl, hbl, hpw⟩ := hrel
    by_cases hlt : k < m
    · obtain ⟨b, off, rfl, hc⟩ := HZ.out.cellBelow hbl.bel (show k < len by omega)
      have hb0 : (0 : Int) ≤ (k : Int) := by omega
      have hb1 : (k : Int) < (len : Int) := by omega
      have hb2 : (k : Int) < (m : Int) := by omega
      have hmod : (k : Int).tmod (n : Int) = ((k % n : Nat) : Int) := by rw [Int.tmod_eq_emod_of_nonneg hb0, Int.natCast_emod]
      rcases hpw with ⟨hm, hpi⟩ | ⟨rfl, hpi⟩
      · obtain ⟨⟨lv, sl, at2, due⟩, hsp⟩ : ∃ s, s = placeV now (z k) := ⟨_, rfl⟩
        have hput := hbl.putNext hpi hr1 (by omega) (HZ.out.wd k) hm
        rw [← hsp] at hput
        have HM := Lib.hid hm
        clear hpi hsp hm
        obtain ⟨r, hr⟩ : ∃ r, r = k % n := ⟨_, rfl⟩
        rw [← hr] at hput
        rw [← hr] at hmod
        unfold spV at hput
        have HPut := Lib.hid hput
        have hcel := fun w2 (hb : Below w.heap.size w w2) => (HZ.out.cellBelow hb (show k < len by omega))
        generalize z k = x at hc HPut hcel
        have HCe := Lib.hid (show ∀ w2, Below w.heap.size w w2 → w2.cell? ⟨b, off + k, none⟩ = some (.int .u64 x) from fun w2 hb => by
          obtain ⟨b', o', e, h⟩ := hcel w2 hb
          cases e
          exact h)
        have HW1 := Lib.hid (Ch.refl [] wr).drew
        have HW2 := Lib.hid (((Ch.refl [] wr).alloc (.cells #[.int .i64 0, .int .i64 0, .int .u64 0, .int .u64 0] 29)).drew)
        have HBx := Lib.hid (BoxN.new wr [.int .i64 0, .int .i64 0, .int .u64 0, .int .u64 0] 29).drew
        have hn1 : ¬ n = 0 := by omega
        have hnw := World.new_ne wr _ hc
        have hnb : ¬ wr.heap.size = b := fun e => by have := cell_lt hc; simp only at this; omega
        clear hbl hput hr hcel
        go_wp2_with fail
        go_region_held3 (fun w' => w'.cell? ⟨b, off + k, none⟩ = some (.int .u64 x)) (go_keep) (first
          | (go_at_call 7; with_reducible refine (HPut.out _ HW1.out).mono ?_; rintro e w2 ⟨rfl, g, hb2, hp2, -, -⟩; have e0 := HCe.out _ hb2.bel; have HB2 := Lib.hid hb2; have HP2 := Lib.hid hp2; clear hb2 hp2)
          | (go_at_call 7; with_reducible refine (HPut.out _ HW2.out).mono ?_; rintro e w2 ⟨rfl, g, hb2, hp2, hbx, hst⟩; have e0 := HCe.out _ hb2.bel; have HSt := Lib.hid (hst (by simp [World.drew])); have HP2 := Lib.hid hp2; have HX := Lib.hid (hbx _ HBx.out); obtain ⟨x0, y0, x1, y1, x2, y2, x3, y3⟩ := BoxN.four (hbx _ HBx.out); clear hb2 hp2 hbx hst)
          | fail)
        · go_wp2_with fail
          go_roundw
          case rel => exact ⟨k + 1, g, by omega, by go_num, HB2.out.quiet ((Ch.refl [] w2).alloc _), .inl ⟨HM.out, HP2.out⟩⟩
          case measure => simp [intOf]; omega
        · go_wp2_with fail
          go_roundw
          case rel => exact ⟨k + 1, g, by omega, by go_num, HSt.out _ (set_four HX.out _ _ _ _).2, .inl ⟨HM.out, HP2.out⟩⟩
          case measure => simp [intOf]; omega
      · have hput := hbl.putLast (k := k) hpi hr1 (by omega) (z k)
        clear hpi
        obtain ⟨r, hr⟩ : ∃ r, r = k % n := ⟨_, rfl⟩
        rw [← hr] at hput
        rw [← hr] at hmod
        unfold spz at hput
        have HPut := Lib.hid hput
        have hcel := fun w2 (hb : Below w.heap.size w w2) => (HZ.out.cellBelow hb (show k < len by omega))
        generalize z k = x at hc HPut hcel
        have HCe := Lib.hid (show ∀ w2, Below w.heap.size w w2 → w2.cell? ⟨b, off + k, none⟩ = some (.int .u64 x) from fun w2 hb => by
          obtain ⟨b', o', e, h⟩ := hcel w2 hb
          cases e
          exact h)
        have HW1 := Lib.hid (Ch.refl [] wr).drew
        have HW2 := Lib.hid (((Ch.refl [] wr).alloc (.cells #[.int .i64 0, .int .i64 0, .int .u64 0, .int .u64 0] 29)).drew)
        have HBx := Lib.hid (BoxN.new wr [.int .i64 0, .int .i64 0, .int .u64 0, .int .u64 0] 29).drew
        have hn1 : ¬ n = 0 := by omega
        have hnw := World.new_ne wr _ hc
        have hnb : ¬ wr.heap.size = b := fun e => by have := cell_lt hc; simp only at this; omega
        clear hbl hput hr hcel
        go_wp2_with fail
        go_region_held3 (fun w' => w'.cell? ⟨b, off + k, none⟩ = some (.int .u64 x)) (go_keep) (first
          | (go_at_call 7; with_reducible refine (HPut.out _ HW1.out).mono ?_; rintro e w2 ⟨rfl, g, hb2, hp2, -, -⟩; have e0 := HCe.out _ hb2.bel; have HB2 := Lib.hid hb2; have HP2 := Lib.hid hp2; clear hb2 hp2)
          | (go_at_call 7; with_reducible refine (HPut.out _ HW2.out).mono ?_; rintro e w2 ⟨rfl, g, hb2, hp2, hbx, hst⟩; have e0 := HCe.out _ hb2.bel; have HSt := Lib.hid (hst (by simp [World.drew])); have HP2 := Lib.hid hp2; have HX := Lib.hid (hbx _ HBx.out); obtain ⟨x0, y0, x1, y1, x2, y2, x3, y3⟩ := BoxN.four (hbx _ HBx.out); clear hb2 hp2 hbx hst)
          | fail)
        · go_wp2_with fail
          go_roundw
          case rel => exact ⟨k + 1, g, by omega, by go_num, HB2.out.quiet ((Ch.refl [] w2).alloc _), .inr ⟨rfl, HP2.out⟩⟩
          case measure => simp [intOf]; omega
        · go_wp2_with fail
          go_roundw
          case rel => exact ⟨k + 1, g, by omega, by go_num, HSt.out _ (set_four HX.out _ _ _ _).2, .inr ⟨rfl, HP2.out⟩⟩
          case measure => simp [intOf]; omega
    · obtain rfl : k = m := by omega
      have HBl := Lib.hid hbl
      have HPw := Lib.hid hpw
      clear hbl hpw
      go_wp2_with fail
      with_reducible refine (HBl.out.late2 HT.out d).mono ?_
      rintro e w2 ⟨rfl, hc2⟩
      have hbl2 := HBl.out.quiet hc2
      have hcat := hbl2.catch HT.out HCn.out HD.out
      have hwi := HBl.out.wi HCn.out
      rw [HPw.out.now' HCn.out] at hwi
      have HWi := Lib.hid hwi
      have HOl := Lib.hid (outs_late (L := (f c).L) d)
      obtain ⟨zs, hzs⟩ : ∃ zs, zs = outs (f c).L d := ⟨_, rfl⟩
      obtain ⟨p, hp⟩ : ∃ p, p = zs.length := ⟨_, rfl⟩
      obtain ⟨M0, hM0⟩ : ∃ x, x = lateN f n d := ⟨_, rfl⟩
      have hM1 : M0 < 18446744073709551616 := by rw [hM0]; exact lateN_lt f n d
      have HZs := Lib.hid (show ∀ x ∈ zs, ∃ j : Nat, x = (j : Int) ∧ j % n = c from fun x hx => by
        rw [hzs] at hx
        obtain ⟨t, ht, _, e⟩ := outs_mem.1 hx
        obtain ⟨j, _, h2, h3⟩ := HPw.out.mem HCn.out ht
        exact ⟨j, by rw [← e, h2], h3⟩)
      rw [← hzs, ← hp] at hcat HOl
      rw [← hM0]
      have HCat := Lib.hid hcat
      have HM0 := Lib.hid hM0
      have HM1 := Lib.hid hM1
      have HPn := Lib.hid hp
      have hp256 : p ≤ 256 := by
        have h1 := hwi.len
        have h2 := List.length_filter_le (fun t => decide (t.sp.due ≤ d)) (f c).L
        rw [hp, hzs, outs_length]
        exact Nat.le_trans h2 h1
      have hHas := Mk.has_any M0 (c : Int) hM1
      rw [hM0, lateN_has f (by omega) d HCn.out, ← hM0] at hHas
      have HHas := Lib.hid hHas
      clear hbl2 hcat hwi hzs hp hM0 hM1 hHas hc2
      go_frame
      go_wp2_with fail
      with_reducible refine HCat.out.mono ?_
      rintro e w3 ⟨v, rfl, hrow, hbl⟩
      obtain ⟨a3, c3, rfl⟩ := own_form hrow
      have HRow := Lib.hid hrow
      have HBl3 := Lib.hid hbl
      clear hrow hbl HCat
      cases hlb : lateB (f c).L d with
      | true =>
        have hp0 : 0 < p := HOl.out.2 hlb
        have hgt : now < d := by
          obtain ⟨t, ht, h2⟩ := lateB_iff.1 hlb
          have := (HWi.out.fits t ht).ahead
          omega
        have hpd : decide ((p : Int) > 0) = true := decide_eq_true (by omega)
        have hgd : decide (d > now) = true := decide_eq_true (by omega)
        have hge : decide (d ≥ now) = true := decide_eq_true (by omega)
        rw [hlb] at HHas
        clear hgt hlb
        go_frame
        go_wp2_with fail
        with_reducible refine (HHas.out _).mono ?_
        rintro e w4 ⟨rfl, rfl⟩
        go_frame
        go_wp2_with fail
        with_reducible refine (HBl3.out.late2 HT.out d).mono ?_
        rintro e w5 ⟨rfl, hc5⟩
        rw [lateN_catch f HCn.out d, ← HM0.out]
        have HWo := Lib.hid (without_one HM1.out c w5 3)
        obtain ⟨M2, hM2⟩ : ∃ x, x = Mk.withoutN M0 [(c : Int)] := ⟨_, rfl⟩
        rw [← hM2] at HWo ⊢
        have hc6 := hc5.alloc (.cells #[.int .i64 ((c : Nat) : Int)] 3)
        have HBl5 := Lib.hid (HBl3.out.quiet hc6)
        have HRow5 := Lib.hid (own_ch HRow.out hc6 (by simp))
        clear hM2 hc5 hc6
        go_frame
        go_wp2_with fail
        with_reducible refine HWo.out.mono ?_
        rintro e w6 ⟨rfl, rfl⟩
        go_frame
        go_wp2_with fail
        obtain ⟨W5, hW5⟩ : ∃ W, W = w5.alloc (.cells #[.int .i64 ((c : Nat) : Int)] 3) := ⟨_, rfl⟩
        rw [← hW5] at HBl5 HRow5 ⊢
        clear hW5 HWo
        obtain ⟨bs, hbs⟩ : ∃ b, b = w2.heap.size := ⟨_, rfl⟩
        rw [← hbs] at HRow5
        clear hbs
        go_loopw [19] (fun ix wr => ∃ i : Nat, i ≤ p ∧ ix = .int .i64 (i : Int) ∧ wr = W5) (fun ix _ => p - (intOf ix).toNat)
        case atStart => exact ⟨0, Nat.zero_le _, rfl, rfl⟩
        case round =>
          obtain ⟨i, hip, rfl, rfl⟩ := hrel
          by_cases hlt4 : i < p
          · have hlt5 : (i : Int) < (p : Int) := by omega
            have hi0 : (0 : Int) ≤ (i : Int) := by omega
            obtain ⟨g3, rfl⟩ : ∃ g, a3 = some ⟨g, 0, none⟩ := by
              rcases HRow5.out.2 with ⟨_, e⟩ | ⟨g, cp', cur, e, _⟩
              · omega
              · cases e; exact ⟨g, rfl⟩
            have hzi : zs[i]? = some (zs[i]'(by have := HPn.out; omega)) := List.getElem?_eq_getElem _
            obtain ⟨j, hj1, hj2⟩ := HZs.out _ (List.getElem_mem (by have := HPn.out; omega : i < zs.length))
            have hcell : wr.cell? ⟨g3, i, none⟩ = some (.int .i64 (j : Int)) := by
              rw [HRow5.out.cellAt i (by omega), List.getElem?_map, hzi, hj1]
              rfl
            have hmod : (j : Int).tmod (n : Int) = (c : Int) := by rw [Int.tmod_eq_emod_of_nonneg (by omega), ← Int.natCast_emod, hj2]
            clear hzi hj1 hj2
            go_wp2_with fail
            go_roundw
            case rel => exact ⟨i + 1, by omega, by go_num, trivial⟩
            case measure => simp [intOf]; omega
          · obtain rfl : i = p := by omega
            go_wp2_with fail
            obtain ⟨W5, hW5⟩ : ∃ W, W = wr := ⟨_, rfl⟩
            rw [← hW5] at HBl5 ⊢
            clear hW5 HRow5
            go_loopw [20] (fun ix wr => ∃ i : Nat, i ≤ k ∧ ix = .int .i64 (i : Int) ∧ Ch [] W5 wr) (fun ix _ => k - (intOf ix).toNat)
            case atStart => exact ⟨0, Nat.zero_le _, rfl, Ch.refl _ _⟩
            case round =>
              obtain ⟨i2, hik, rfl, hch⟩ := hrel
              by_cases hlt6 : i2 < k
              · have hlt7 : (i2 : Int) < (k : Int) := by omega
                have hi0 : (0 : Int) ≤ (i2 : Int) := by omega
                rcases HPw.out with ⟨hm, hpi⟩ | ⟨hm, hpi⟩
                · have hmb : (now == (18446744073709551615 : Int)) = false := by simpa using hm
                  have hbl6 := HBl5.out.quiet hch
                  have hfa := find_after hbl6 hpi HCn.out hr1 hlt6
                  have hfind := hbl6.find (k := (i2 : Int)) (wf_small (by omega) (by omega))
                  have hmod : (i2 : Int).tmod (n : Int) = ((i2 % n : Nat) : Int) := by rw [Int.tmod_eq_emod_of_nonneg hi0, Int.natCast_emod]
                  obtain ⟨r, hr⟩ : ∃ r, r = i2 % n := ⟨_, rfl⟩
                  obtain ⟨x, hx⟩ : ∃ x, x = ownC (catchW f c d) n (i2 : Int) := ⟨_, rfl⟩
                  obtain ⟨⟨lv, sl, at2, due⟩, hsp⟩ : ∃ s, s = ownS (catchW f c d) n (i2 : Int) := ⟨_, rfl⟩
                  obtain ⟨b, hb⟩ : ∃ b, b = ownB (catchW f c d) n (i2 : Int) := ⟨_, rfl⟩
                  rw [← hr] at hmod hfa
                  rw [← hx, ← hb, ← hsp] at hfa
                  rw [← hx, ← hb, ← hsp] at hfind
                  have HFi := Lib.hid hfind
                  have HCh := Lib.hid hch
                  clear hm hpi hbl6 hfind hr hx hsp hb hch
                  rcases hfa with ⟨h1, rfl, rfl⟩ | ⟨rfl, rfl⟩ | ⟨rfl, rfl, rfl, hdue⟩
                  · have hrc : ¬ (x : Int) = (c : Int) := by omega
                    have hrb : ((x : Int) == (c : Int)) = false := by simpa using hrc
                    unfold spV at HFi
                    go_wp2_with fail
                    with_reducible refine HFi.out.mono ?_
                    rintro e w7 ⟨rfl, hc7⟩
                    obtain ⟨k0, k1, k2, k3⟩ := Four.new w7 (.int .i64 (lv : Int)) (.int .i64 sl) (.int .u64 at2) (.int .u64 due) 29
                    have HC7 := Lib.hid ((HCh.out.trans hc7).alloc (.cells #[.int .i64 (lv : Int), .int .i64 sl, .int .u64 at2, .int .u64 due] 29))
                    clear hc7
                    go_frame
                    go_wp2_with fail
                    go_roundw
                    case rel => exact ⟨i2 + 1, by omega, by go_num, HC7.out⟩
                    case measure => simp [intOf]; omega
                  · skip
                    unfold spV at HFi
                    go_wp2_with fail
                    with_reducible refine HFi.out.mono ?_
                    rintro e w7 ⟨rfl, hc7⟩
                    obtain ⟨k0, k1, k2, k3⟩ := Four.new w7 (.int .i64 (lv : Int)) (.int .i64 sl) (.int .u64 at2) (.int .u64 due) 29
                    have HC7 := Lib.hid ((HCh.out.trans hc7).alloc (.cells #[.int .i64 (lv : Int), .int .i64 sl, .int .u64 at2, .int .u64 due] 29))
                    clear hc7
                    go_frame
                    go_wp2_with fail
                    go_roundw
                    case rel => exact ⟨i2 + 1, by omega, by go_num, HC7.out⟩
                    case measure => simp [intOf]; omega
                  · have hdd : decide (due ≤ d) = false := decide_eq_false (by simp only at hdue; omega)
                    clear hdue
                    unfold spV at HFi
                    go_wp2_with fail
                    with_reducible refine HFi.out.mono ?_
                    rintro e w7 ⟨rfl, hc7⟩
                    obtain ⟨k0, k1, k2, k3⟩ := Four.new w7 (.int .i64 (lv : Int)) (.int .i64 sl) (.int .u64 at2) (.int .u64 due) 29
                    have HC7 := Lib.hid ((HCh.out.trans hc7).alloc (.cells #[.int .i64 (lv : Int), .int .i64 sl, .int .u64 at2, .int .u64 due] 29))
                    clear hc7
                    go_frame
                    go_wp2_with fail
                    go_roundw
                    case rel => exact ⟨i2 + 1, by omega, by go_num, HC7.out⟩
                    case measure => simp [intOf]; omega
                · have hmb : (now == (18446744073709551615 : Int)) = true := by simpa using hm
                  have HCh := Lib.hid hch
                  clear hm hpi hch
                  have hbl7 := HBl5.out.quiet HCh.out
                  have HB7 := Lib.hid hbl7.bel
                  have HKn := Lib.hid (known_any _ (hbl7.tab HT.out))
                  clear hbl7
                  go_wp2_with fail
                  with_reducible refine HKn.out.mono ?_
                  rintro e w8 ⟨rfl, hb8⟩
                  have HB8 := Lib.hid (HB7.out.trans (hb8.mono HB7.out.size))
                  clear hb8
                  go_frame
                  go_wp2
                  go_ret
                  exact ⟨rfl, HB8.out⟩
              · obtain rfl : i2 = k := by omega
                have HCh := Lib.hid hch
                clear hch
                have hbl7 := HBl5.out.quiet HCh.out
                have HB7 := Lib.hid hbl7.bel
                have HKn := Lib.hid (known_any _ (hbl7.tab HT.out))
                clear hbl7
                go_wp2_with fail
                with_reducible refine HKn.out.mono ?_
                rintro e w8 ⟨rfl, hb8⟩
                have HB8 := Lib.hid (HB7.out.trans (hb8.mono HB7.out.size))
                clear hb8
                go_frame
                go_wp2
                go_ret
                exact ⟨rfl, HB8.out⟩
      | false =>
        have hp0 : ¬ 0 < p := by
          have h1 := HOl.out
          rw [hlb] at h1
          exact fun e => by have := h1.1 e; cases this
        have hpd : decide ((p : Int) > 0) = false := decide_eq_false (by omega)
        rw [hlb] at HHas
        clear hlb
        rcases Int.lt_or_le d now with hlt2 | hle
        · have hge : decide (d ≥ now) = false := decide_eq_false (by omega)
          clear hlt2
          go_frame
          go_wp2_with fail
          with_reducible refine (HHas.out _).mono ?_
          rintro e w4 ⟨rfl, rfl⟩
          have HBl5 := HBl3
          have HRow5 := HRow
          go_frame
          go_wp2_with fail
          obtain ⟨W5, hW5⟩ : ∃ W, W = w3 := ⟨_, rfl⟩
          rw [← hW5] at HBl5 HRow5 ⊢
          clear hW5
          obtain ⟨bs, hbs⟩ : ∃ b, b = w2.heap.size := ⟨_, rfl⟩
          rw [← hbs] at HRow5
          clear hbs
          go_loopw [19] (fun ix wr => ∃ i : Nat, i ≤ p ∧ ix = .int .i64 (i : Int) ∧ wr = W5) (fun ix _ => p - (intOf ix).toNat)
          case atStart => exact ⟨0, Nat.zero_le _, rfl, rfl⟩
          case round =>
            obtain ⟨i, hip, rfl, rfl⟩ := hrel
            by_cases hlt4 : i < p
            · have hlt5 : (i : Int) < (p : Int) := by omega
              have hi0 : (0 : Int) ≤ (i : Int) := by omega
              obtain ⟨g3, rfl⟩ : ∃ g, a3 = some ⟨g, 0, none⟩ := by
                rcases HRow5.out.2 with ⟨_, e⟩ | ⟨g, cp', cur, e, _⟩
                · omega
                · cases e; exact ⟨g, rfl⟩
              have hzi : zs[i]? = some (zs[i]'(by have := HPn.out; omega)) := List.getElem?_eq_getElem _
              obtain ⟨j, hj1, hj2⟩ := HZs.out _ (List.getElem_mem (by have := HPn.out; omega : i < zs.length))
              have hcell : wr.cell? ⟨g3, i, none⟩ = some (.int .i64 (j : Int)) := by
                rw [HRow5.out.cellAt i (by omega), List.getElem?_map, hzi, hj1]
                rfl
              have hmod : (j : Int).tmod (n : Int) = (c : Int) := by rw [Int.tmod_eq_emod_of_nonneg (by omega), ← Int.natCast_emod, hj2]
              clear hzi hj1 hj2
              go_wp2_with fail
              go_roundw
              case rel => exact ⟨i + 1, by omega, by go_num, trivial⟩
              case measure => simp [intOf]; omega
            · obtain rfl : i = p := by omega
              go_wp2_with fail
              obtain ⟨W5, hW5⟩ : ∃ W, W = wr := ⟨_, rfl⟩
              rw [← hW5] at HBl5 ⊢
              clear hW5 HRow5
              go_loopw [20] (fun ix wr => ∃ i : Nat, i ≤ k ∧ ix = .int .i64 (i : Int) ∧ Ch [] W5 wr) (fun ix _ => k - (intOf ix).toNat)
              case atStart => exact ⟨0, Nat.zero_le _, rfl, Ch.refl _ _⟩
              case round =>
                obtain ⟨i2, hik, rfl, hch⟩ := hrel
                by_cases hlt6 : i2 < k
                · have hlt7 : (i2 : Int) < (k : Int) := by omega
                  have hi0 : (0 : Int) ≤ (i2 : Int) := by omega
                  rcases HPw.out with ⟨hm, hpi⟩ | ⟨hm, hpi⟩
                  · have hmb : (now == (18446744073709551615 : Int)) = false := by simpa using hm
                    have hbl6 := HBl5.out.quiet hch
                    have hfa := find_after hbl6 hpi HCn.out hr1 hlt6
                    have hfind := hbl6.find (k := (i2 : Int)) (wf_small (by omega) (by omega))
                    have hmod : (i2 : Int).tmod (n : Int) = ((i2 % n : Nat) : Int) := by rw [Int.tmod_eq_emod_of_nonneg hi0, Int.natCast_emod]
                    obtain ⟨r, hr⟩ : ∃ r, r = i2 % n := ⟨_, rfl⟩
                    obtain ⟨x, hx⟩ : ∃ x, x = ownC (catchW f c d) n (i2 : Int) := ⟨_, rfl⟩
                    obtain ⟨⟨lv, sl, at2, due⟩, hsp⟩ : ∃ s, s = ownS (catchW f c d) n (i2 : Int) := ⟨_, rfl⟩
                    obtain ⟨b, hb⟩ : ∃ b, b = ownB (catchW f c d) n (i2 : Int) := ⟨_, rfl⟩
                    rw [← hr] at hmod hfa
                    rw [← hx, ← hb, ← hsp] at hfa
                    rw [← hx, ← hb, ← hsp] at hfind
                    have HFi := Lib.hid hfind
                    have HCh := Lib.hid hch
                    clear hm hpi hbl6 hfind hr hx hsp hb hch
                    rcases hfa with ⟨h1, rfl, rfl⟩ | ⟨rfl, rfl⟩ | ⟨rfl, rfl, rfl, hdue⟩
                    · have hrc : ¬ (x : Int) = (c : Int) := by omega
                      have hrb : ((x : Int) == (c : Int)) = false := by simpa using hrc
                      unfold spV at HFi
                      go_wp2_with fail
                      with_reducible refine HFi.out.mono ?_
                      rintro e w7 ⟨rfl, hc7⟩
                      obtain ⟨k0, k1, k2, k3⟩ := Four.new w7 (.int .i64 (lv : Int)) (.int .i64 sl) (.int .u64 at2) (.int .u64 due) 29
                      have HC7 := Lib.hid ((HCh.out.trans hc7).alloc (.cells #[.int .i64 (lv : Int), .int .i64 sl, .int .u64 at2, .int .u64 due] 29))
                      clear hc7
                      go_frame
                      go_wp2_with fail
                      go_roundw
                      case rel => exact ⟨i2 + 1, by omega, by go_num, HC7.out⟩
                      case measure => simp [intOf]; omega
                    · skip
                      unfold spV at HFi
                      go_wp2_with fail
                      with_reducible refine HFi.out.mono ?_
                      rintro e w7 ⟨rfl, hc7⟩
                      obtain ⟨k0, k1, k2, k3⟩ := Four.new w7 (.int .i64 (lv : Int)) (.int .i64 sl) (.int .u64 at2) (.int .u64 due) 29
                      have HC7 := Lib.hid ((HCh.out.trans hc7).alloc (.cells #[.int .i64 (lv : Int), .int .i64 sl, .int .u64 at2, .int .u64 due] 29))
                      clear hc7
                      go_frame
                      go_wp2_with fail
                      go_roundw
                      case rel => exact ⟨i2 + 1, by omega, by go_num, HC7.out⟩
                      case measure => simp [intOf]; omega
                    · have hdd : decide (due ≤ d) = false := decide_eq_false (by simp only at hdue; omega)
                      clear hdue
                      unfold spV at HFi
                      go_wp2_with fail
                      with_reducible refine HFi.out.mono ?_
                      rintro e w7 ⟨rfl, hc7⟩
                      obtain ⟨k0, k1, k2, k3⟩ := Four.new w7 (.int .i64 (lv : Int)) (.int .i64 sl) (.int .u64 at2) (.int .u64 due) 29
                      have HC7 := Lib.hid ((HCh.out.trans hc7).alloc (.cells #[.int .i64 (lv : Int), .int .i64 sl, .int .u64 at2, .int .u64 due] 29))
                      clear hc7
                      go_frame
                      go_wp2_with fail
                      go_roundw
                      case rel => exact ⟨i2 + 1, by omega, by go_num, HC7.out⟩
                      case measure => simp [intOf]; omega
                  · have hmb : (now == (18446744073709551615 : Int)) = true := by simpa using hm
                    have HCh := Lib.hid hch
                    clear hm hpi hch
                    have hbl7 := HBl5.out.quiet HCh.out
                    have HB7 := Lib.hid hbl7.bel
                    have HKn := Lib.hid (known_any _ (hbl7.tab HT.out))
                    clear hbl7
                    go_wp2_with fail
                    with_reducible refine HKn.out.mono ?_
                    rintro e w8 ⟨rfl, hb8⟩
                    have HB8 := Lib.hid (HB7.out.trans (hb8.mono HB7.out.size))
                    clear hb8
                    go_frame
                    go_wp2
                    go_ret
                    exact ⟨rfl, HB8.out⟩
                · obtain rfl : i2 = k := by omega
                  have HCh := Lib.hid hch
                  clear hch
                  have hbl7 := HBl5.out.quiet HCh.out
                  have HB7 := Lib.hid hbl7.bel
                  have HKn := Lib.hid (known_any _ (hbl7.tab HT.out))
                  clear hbl7
                  go_wp2_with fail
                  with_reducible refine HKn.out.mono ?_
                  rintro e w8 ⟨rfl, hb8⟩
                  have HB8 := Lib.hid (HB7.out.trans (hb8.mono HB7.out.size))
                  clear hb8
                  go_frame
                  go_wp2
                  go_ret
                  exact ⟨rfl, HB8.out⟩
        · have hge : decide (d ≥ now) = true := decide_eq_true (by omega)
          clear hle
          go_frame
          go_wp2_with fail
          with_reducible refine (HHas.out _).mono ?_
          rintro e w4 ⟨rfl, rfl⟩
          go_frame
          go_wp2_with fail
          with_reducible refine (HBl3.out.late2 HT.out d).mono ?_
          rintro e w5 ⟨rfl, hc5⟩
          rw [lateN_catch f HCn.out d, ← HM0.out]
          have HWo := Lib.hid (without_one HM1.out c w5 3)
          obtain ⟨M2, hM2⟩ : ∃ x, x = Mk.withoutN M0 [(c : Int)] := ⟨_, rfl⟩
          rw [← hM2] at HWo ⊢
          have hc6 := hc5.alloc (.cells #[.int .i64 ((c : Nat) : Int)] 3)
          have HBl5 := Lib.hid (HBl3.out.quiet hc6)
          have HRow5 := Lib.hid (own_ch HRow.out hc6 (by simp))
          clear hM2 hc5 hc6
          go_frame
          go_wp2_with fail
          with_reducible refine HWo.out.mono ?_
          rintro e w6 ⟨rfl, rfl⟩
          go_frame
          go_wp2_with fail
          obtain ⟨W5, hW5⟩ : ∃ W, W = w5.alloc (.cells #[.int .i64 ((c : Nat) : Int)] 3) := ⟨_, rfl⟩
          rw [← hW5] at HBl5 HRow5 ⊢
          clear hW5 HWo
          obtain ⟨bs, hbs⟩ : ∃ b, b = w2.heap.size := ⟨_, rfl⟩
          rw [← hbs] at HRow5
          clear hbs
          go_loopw [19] (fun ix wr => ∃ i : Nat, i ≤ p ∧ ix = .int .i64 (i : Int) ∧ wr = W5) (fun ix _ => p - (intOf ix).toNat)
          case atStart => exact ⟨0, Nat.zero_le _, rfl, rfl⟩
          case round =>
            obtain ⟨i, hip, rfl, rfl⟩ := hrel
            by_cases hlt4 : i < p
            · have hlt5 : (i : Int) < (p : Int) := by omega
              have hi0 : (0 : Int) ≤ (i : Int) := by omega
              obtain ⟨g3, rfl⟩ : ∃ g, a3 = some ⟨g, 0, none⟩ := by
                rcases HRow5.out.2 with ⟨_, e⟩ | ⟨g, cp', cur, e, _⟩
                · omega
                · cases e; exact ⟨g, rfl⟩
              have hzi : zs[i]? = some (zs[i]'(by have := HPn.out; omega)) := List.getElem?_eq_getElem _
              obtain ⟨j, hj1, hj2⟩ := HZs.out _ (List.getElem_mem (by have := HPn.out; omega : i < zs.length))
              have hcell : wr.cell? ⟨g3, i, none⟩ = some (.int .i64 (j : Int)) := by
                rw [HRow5.out.cellAt i (by omega), List.getElem?_map, hzi, hj1]
                rfl
              have hmod : (j : Int).tmod (n : Int) = (c : Int) := by rw [Int.tmod_eq_emod_of_nonneg (by omega), ← Int.natCast_emod, hj2]
              clear hzi hj1 hj2
              go_wp2_with fail
              go_roundw
              case rel => exact ⟨i + 1, by omega, by go_num, trivial⟩
              case measure => simp [intOf]; omega
            · obtain rfl : i = p := by omega
              go_wp2_with fail
              obtain ⟨W5, hW5⟩ : ∃ W, W = wr := ⟨_, rfl⟩
              rw [← hW5] at HBl5 ⊢
              clear hW5 HRow5
              go_loopw [20] (fun ix wr => ∃ i : Nat, i ≤ k ∧ ix = .int .i64 (i : Int) ∧ Ch [] W5 wr) (fun ix _ => k - (intOf ix).toNat)
              case atStart => exact ⟨0, Nat.zero_le _, rfl, Ch.refl _ _⟩
              case round =>
                obtain ⟨i2, hik, rfl, hch⟩ := hrel
                by_cases hlt6 : i2 < k
                · have hlt7 : (i2 : Int) < (k : Int) := by omega
                  have hi0 : (0 : Int) ≤ (i2 : Int) := by omega
                  rcases HPw.out with ⟨hm, hpi⟩ | ⟨hm, hpi⟩
                  · have hmb : (now == (18446744073709551615 : Int)) = false := by simpa using hm
                    have hbl6 := HBl5.out.quiet hch
                    have hfa := find_after hbl6 hpi HCn.out hr1 hlt6
                    have hfind := hbl6.find (k := (i2 : Int)) (wf_small (by omega) (by omega))
                    have hmod : (i2 : Int).tmod (n : Int) = ((i2 % n : Nat) : Int) := by rw [Int.tmod_eq_emod_of_nonneg hi0, Int.natCast_emod]
                    obtain ⟨r, hr⟩ : ∃ r, r = i2 % n := ⟨_, rfl⟩
                    obtain ⟨x, hx⟩ : ∃ x, x = ownC (catchW f c d) n (i2 : Int) := ⟨_, rfl⟩
                    obtain ⟨⟨lv, sl, at2, due⟩, hsp⟩ : ∃ s, s = ownS (catchW f c d) n (i2 : Int) := ⟨_, rfl⟩
                    obtain ⟨b, hb⟩ : ∃ b, b = ownB (catchW f c d) n (i2 : Int) := ⟨_, rfl⟩
                    rw [← hr] at hmod hfa
                    rw [← hx, ← hb, ← hsp] at hfa
                    rw [← hx, ← hb, ← hsp] at hfind
                    have HFi := Lib.hid hfind
                    have HCh := Lib.hid hch
                    clear hm hpi hbl6 hfind hr hx hsp hb hch
                    rcases hfa with ⟨h1, rfl, rfl⟩ | ⟨rfl, rfl⟩ | ⟨rfl, rfl, rfl, hdue⟩
                    · have hrc : ¬ (x : Int) = (c : Int) := by omega
                      have hrb : ((x : Int) == (c : Int)) = false := by simpa using hrc
                      unfold spV at HFi
                      go_wp2_with fail
                      with_reducible refine HFi.out.mono ?_
                      rintro e w7 ⟨rfl, hc7⟩
                      obtain ⟨k0, k1, k2, k3⟩ := Four.new w7 (.int .i64 (lv : Int)) (.int .i64 sl) (.int .u64 at2) (.int .u64 due) 29
                      have HC7 := Lib.hid ((HCh.out.trans hc7).alloc (.cells #[.int .i64 (lv : Int), .int .i64 sl, .int .u64 at2, .int .u64 due] 29))
                      clear hc7
                      go_frame
                      go_wp2_with fail
                      go_roundw
                      case rel => exact ⟨i2 + 1, by omega, by go_num, HC7.out⟩
                      case measure => simp [intOf]; omega
                    · skip
                      unfold spV at HFi
                      go_wp2_with fail
                      with_reducible refine HFi.out.mono ?_
                      rintro e w7 ⟨rfl, hc7⟩
                      obtain ⟨k0, k1, k2, k3⟩ := Four.new w7 (.int .i64 (lv : Int)) (.int .i64 sl) (.int .u64 at2) (.int .u64 due) 29
                      have HC7 := Lib.hid ((HCh.out.trans hc7).alloc (.cells #[.int .i64 (lv : Int), .int .i64 sl, .int .u64 at2, .int .u64 due] 29))
                      clear hc7
                      go_frame
                      go_wp2_with fail
                      go_roundw
                      case rel => exact ⟨i2 + 1, by omega, by go_num, HC7.out⟩
                      case measure => simp [intOf]; omega
                    · have hdd : decide (due ≤ d) = false := decide_eq_false (by simp only at hdue; omega)
                      clear hdue
                      unfold spV at HFi
                      go_wp2_with fail
                      with_reducible refine HFi.out.mono ?_
                      rintro e w7 ⟨rfl, hc7⟩
                      obtain ⟨k0, k1, k2, k3⟩ := Four.new w7 (.int .i64 (lv : Int)) (.int .i64 sl) (.int .u64 at2) (.int .u64 due) 29
                      have HC7 := Lib.hid ((HCh.out.trans hc7).alloc (.cells #[.int .i64 (lv : Int), .int .i64 sl, .int .u64 at2, .int .u64 due] 29))
                      clear hc7
                      go_frame
                      go_wp2_with fail
                      go_roundw
                      case rel => exact ⟨i2 + 1, by omega, by go_num, HC7.out⟩
                      case measure => simp [intOf]; omega
                  · have hmb : (now == (18446744073709551615 : Int)) = true := by simpa using hm
                    have HCh := Lib.hid hch
                    clear hm hpi hch
                    have hbl7 := HBl5.out.quiet HCh.out
                    have HB7 := Lib.hid hbl7.bel
                    have HKn := Lib.hid (known_any _ (hbl7.tab HT.out))
                    clear hbl7
                    go_wp2_with fail
                    with_reducible refine HKn.out.mono ?_
                    rintro e w8 ⟨rfl, hb8⟩
                    have HB8 := Lib.hid (HB7.out.trans (hb8.mono HB7.out.size))
                    clear hb8
                    go_frame
                    go_wp2
                    go_ret
                    exact ⟨rfl, HB8.out⟩
                · obtain rfl : i2 = k := by omega
                  have HCh := Lib.hid hch
                  clear hch
                  have hbl7 := HBl5.out.quiet HCh.out
                  have HB7 := Lib.hid hbl7.bel
                  have HKn := Lib.hid (known_any _ (hbl7.tab HT.out))
                  clear hbl7
                  go_wp2_with fail
                  with_reducible refine HKn.out.mono ?_
                  rintro e w8 ⟨rfl, hb8⟩
                  have HB8 := Lib.hid (HB7.out.trans (hb8.mono HB7.out.size))
                  clear hb8
                  go_frame
                  go_wp2
                  go_ret
                  exact ⟨rfl, HB8.out⟩
end Go.Proofs.YtnndofeomakpiaaDoor

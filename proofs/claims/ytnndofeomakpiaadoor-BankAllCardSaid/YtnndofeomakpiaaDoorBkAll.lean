/-
  BankAll, walked.
-/
import Derived.Test.YtnndofeomakpiaaDoorBkP
namespace Go.Proofs.YtnndofeomakpiaaDoor
open Go.RowKit Go.Maps

attribute [local go_sem] Oper.semAt_some

theorem WordsAt.cellBelow {w wr : World} {a : Option Addr} {len : Nat} {z : Nat → Int} (h : WordsAt w a len z) (hb : Below w.heap.size w wr) {k : Nat} (hk : k < len) : ∃ b off, a = some ⟨b, off, none⟩ ∧ wr.cell? ⟨b, off + k, none⟩ = some (.int .u64 (z k)) := by
  obtain ⟨b, off, rfl, h1⟩ := h.at'.resolve_left (by omega)
  exact ⟨b, off, rfl, (hb.cell (p := ⟨b, off + k, none⟩) (cell_lt (h1 k hk))).trans (h1 k hk)⟩
theorem zeroB : Tryd.zeroCells42 = Array.replicate 100 (.bool false) := by kernel_rfl
theorem BoolsAt.new (w : World) : BoolsAt (w.alloc (.cells Tryd.zeroCells42 42)) w.heap.size (fun _ => false) :=
  ⟨fun k hk => by rw [World.cell?_alloc_at _ _ _ _ rfl, zeroB]; simp [hk], fun _ => World.frozen?_alloc_new w _ _ _⟩
/-- What is told of one that comes out. -/
theorem out_at {n k : Nat} {now : Int} {f : Nat → Wh} {puts : Nat} (h : PutInv n k now f) {c : Nat} (hc : c < n) (hw : WI now puts (f c).L) {x : Int} {i : Nat} (hi : i < (outs (f c).L x).length) :
    ∃ j : Nat, (outs (f c).L x)[i]? = some (j : Int) ∧ j < k ∧ j % n = c ∧ (j : Int) ∉ (outs (f c).L x).take i := by
  have hm : (outs (f c).L x)[i] ∈ outs (f c).L x := List.getElem_mem hi
  obtain ⟨t, ht, _, e⟩ := outs_mem.1 hm
  obtain ⟨j, h1, h2, h3⟩ := h.mem c hc t ht
  have e2 : (outs (f c).L x)[i] = (j : Int) := by rw [← e, h2]
  refine ⟨j, by rw [List.getElem?_eq_getElem hi, e2], h1, h3, fun hmem => ?_⟩
  obtain ⟨i', hi', e3⟩ := List.mem_take_iff_getElem.1 hmem
  have hnd := outs_nodup hw.nd x
  have := (List.nodup_iff_pairwise_ne.1 hnd)
  rw [List.pairwise_iff_getElem] at this
  exact this i' i (by omega) hi (by omega) (by rw [e3, e2])
set_option maxRecDepth 100000 in
set_option maxHeartbeats 2000000 in
theorem all_max (a0 : Int) (a : Option Addr) (len cap : Nat) (w : World) (hT : Mk.Tab w) :
    Calls Tryd.prog 4 #[.int .i64 a0, .int .u64 18446744073709551615, .slice a len cap] w fun e w' => e = .returned (.bool true) ∧ Below w.heap.size w w' := by
  have HT := Lib.hid hT
  have u0 : 0 ≤ IntKind.u64.wrap a0 ∧ IntKind.u64.wrap a0 < 18446744073709551616 := by rw [IntKind.wrap_u64]; omega
  generalize hg0 : IntKind.u64.wrap a0 = U0 at u0
  obtain ⟨u00, u01⟩ := u0
  obtain ⟨n, hr0, hr1, hr2⟩ : ∃ n : Nat, 1 + U0 % 64 = (n : Int) ∧ 1 ≤ n ∧ n ≤ 64 := ⟨(1 + U0 % 64).toNat, by omega⟩
  have HN := Lib.hid (BL.newB w hr1 hr2 (now := 18446744073709551615) ⟨by decide, by decide⟩)
  clear hT
  go_enter Tryd.func4, Tryd.ntmps4
  go_wp2_with fail
  with_reducible refine HN.out.mono ?_
  rintro e w1 ⟨K, Bs, rfl, hb⟩
  have HB := Lib.hid hb
  clear hb
  go_frame
  go_wp2_with fail
  with_reducible refine (known_any _ (HB.out.tab HT.out)).mono ?_
  rintro e w2 ⟨rfl, hb2⟩
  have HB2 := Lib.hid (HB.out.bel.trans (hb2.mono HB.out.bel.size))
  clear hb2
  go_frame
  go_wp2
  go_ret
  exact ⟨rfl, HB2.out⟩
set_option maxRecDepth 100000 in
set_option maxHeartbeats 4000000 in
theorem all_some (a0 : Int) {now : Int} (hn : Wd now) (hm : now ≠ 18446744073709551615) (a : Option Addr) (len cap : Nat) (z : Nat → Int) (w : World) (hT : Mk.Tab w) (hlc : len ≤ cap) (hcm : cap ≤ 9223372036854775807) (hz : WordsAt w a len z) :
    Calls Tryd.prog 4 #[.int .i64 a0, .int .u64 now, .slice a len cap] w fun e w' => e = .returned (.bool true) ∧ Below w.heap.size w w' := by
  have HT := Lib.hid hT
  have HZ := Lib.hid hz
  have HMx := Lib.hid hm
  have hlm : (len : Int) ≤ 9223372036854775807 := by omega
  have u0 : 0 ≤ IntKind.u64.wrap a0 ∧ IntKind.u64.wrap a0 < 18446744073709551616 := by rw [IntKind.wrap_u64]; omega
  generalize hg0 : IntKind.u64.wrap a0 = U0 at u0
  obtain ⟨u00, u01⟩ := u0
  obtain ⟨n, hr0, hr1, hr2⟩ : ∃ n : Nat, 1 + U0 % 64 = (n : Int) ∧ 1 ≤ n ∧ n ≤ 64 := ⟨(1 + U0 % 64).toNat, by omega⟩
  obtain ⟨m, hmin, hm1, hm2⟩ : ∃ m : Nat, min (len : Int) 100 = (m : Int) ∧ m ≤ 100 ∧ m ≤ len := ⟨min len 100, by omega, by omega, by omega⟩
  have HN := Lib.hid (BL.newB w hr1 hr2 hn)
  have hn0 : ¬ (n : Int) = 0 := by omega
  have hmb : (now == (18446744073709551615 : Int)) = false := by simpa using hm
  clear hT hz hn hlc hcm hm
  go_enter Tryd.func4, Tryd.ntmps4
  go_wp2_with fail
  with_reducible refine HN.out.mono ?_
  rintro e w1 ⟨K, Bs, rfl, hb⟩
  have HB := Lib.hid hb
  clear hb hg0 hr0 u00 u01
  go_frame
  go_wp2_with fail
  clear hmin
  go_loopw [10] (fun i wr => ∃ (k : Nat) (f : Nat → Wh), k ≤ m ∧ i = .int .i64 (k : Int) ∧ BL w wr K n f ∧ PutInv n k now f) (fun i _ => m - (intOf i).toNat)
  case atStart => exact ⟨0, _, Nat.zero_le _, rfl, HB.out, PutInv.zero n Bs now⟩
  case round =>
    obtain ⟨k, f, hk, rfl, hbl, hpi⟩ := hrel
    by_cases hlt : k < m
    · obtain ⟨b, off, rfl, hc⟩ := HZ.out.cellBelow hbl.bel (show k < len by omega)
      have hb0 : (0 : Int) ≤ (k : Int) := by omega
      have hb1 : (k : Int) < (len : Int) := by omega
      have hb2 : (k : Int) < (m : Int) := by omega
      have hmod : (k : Int).tmod (n : Int) = ((k % n : Nat) : Int) := by rw [Int.tmod_eq_emod_of_nonneg hb0, Int.natCast_emod]
      obtain ⟨⟨lv, sl, at2, due⟩, hsp⟩ : ∃ s, s = placeV now (z k) := ⟨_, rfl⟩
      have hput := hbl.putNext hpi hr1 (by omega) (HZ.out.wd k) HMx.out
      obtain ⟨r, hr⟩ : ∃ r, r = k % n := ⟨_, rfl⟩
      rw [← hsp, ← hr] at hput
      rw [← hr] at hmod
      unfold spV at hput
      have HPut := Lib.hid hput
      have hcel := fun w2 (hb : Below w.heap.size w w2) => (HZ.out.cellBelow hb (show k < len by omega))
      generalize z k = x at hc HPut hcel
      have HCe := Lib.hid (show ∀ w2, Below w.heap.size w w2 → w2.cell? ⟨b, off + k, none⟩ = some (.int .u64 x) from fun w2 hb => by
        obtain ⟨b', o', e, h⟩ := hcel w2 hb
        cases e
        exact h)
      have HW1 := Lib.hid (Ch.refl [] wr).drew
      have HW2 := Lib.hid (((Ch.refl [] wr).alloc (.cells #[.int .i64 0, .int .i64 0, .int .u64 0, .int .u64 0] 29)).drew)
      have HBx := Lib.hid (BoxN.new wr [.int .i64 0, .int .i64 0, .int .u64 0, .int .u64 0] 29).drew
      have hn1 : ¬ n = 0 := by omega
      have hnw := World.new_ne wr _ hc
      have hnb : ¬ wr.heap.size = b := fun e => by have := cell_lt hc; simp only at this; omega
      clear hbl hpi hsp hput hr hcel
      go_wp2_with fail
      go_region_held3 (fun w' => w'.cell? ⟨b, off + k, none⟩ = some (.int .u64 x)) (go_keep) (first
        | (go_at_call 7; with_reducible refine (HPut.out _ HW1.out).mono ?_; rintro e w2 ⟨rfl, g, hb2, hp2, -, -⟩; have e0 := HCe.out _ hb2.bel; have HB2 := Lib.hid hb2; have HP2 := Lib.hid hp2; clear hb2 hp2)
        | (go_at_call 7; with_reducible refine (HPut.out _ HW2.out).mono ?_; rintro e w2 ⟨rfl, g, hb2, hp2, hbx, hst⟩; have e0 := HCe.out _ hb2.bel; have HSt := Lib.hid (hst (by simp [World.drew])); have HP2 := Lib.hid hp2; have HX := Lib.hid (hbx _ HBx.out); obtain ⟨x0, y0, x1, y1, x2, y2, x3, y3⟩ := BoxN.four (hbx _ HBx.out); clear hb2 hp2 hbx hst)
        | fail)
      · go_wp2_with fail
        go_roundw
        case rel => exact ⟨k + 1, g, by omega, by go_num, HB2.out.quiet ((Ch.refl [] w2).alloc _), HP2.out⟩
        case measure => simp [intOf]; omega
      · go_wp2_with fail
        go_roundw
        case rel => exact ⟨k + 1, g, by omega, by go_num, HSt.out _ (set_four HX.out _ _ _ _).2, HP2.out⟩
        case measure => simp [intOf]; omega
    · obtain rfl : k = m := by omega
      have HB2 := Lib.hid hbl
      have HP2 := Lib.hid hpi
      clear hbl hpi
      have HX0 := Lib.hid (HB2.out.bx (.cells Tryd.zeroCells42 42))
      have HO0 := Lib.hid (BoolsAt.new wr)
      obtain ⟨X, hX⟩ : ∃ X, X = wr.heap.size := ⟨_, rfl⟩
      have hdue : ∀ c, c < n → ∀ t ∈ (f c).L, t.sp.due ≤ 18446744073709551615 := fun c hc t ht => ((HB2.out.wi hc).fits t ht).top
      have hlc : ∀ c, c < n → (outs (f c).L 18446744073709551615).length = (f c).L.length := fun c hc => by rw [outs_length, upto_top (hdue c hc)]
      have HDue := Lib.hid hdue
      have HLc := Lib.hid hlc
      have HSum := Lib.hid (show sumC (fun i => (f i).L.length) n = k from HP2.out.sum)
      have HNd := Lib.hid (fun c (hc : c < n) => HB2.out.wi hc)
      clear hdue hlc
      go_wp2_with fail
      rw [← hX] at HX0 HO0 ⊢
      generalize wr.alloc (.cells Tryd.zeroCells42 42) = W2 at *
      clear hX HB2
      go_loopw [13, 15] (fun cv ix wr => ∃ (c : Nat) (o : Nat → Bool), c ≤ n ∧ ix = .int .i64 (c : Int) ∧ cv = .int .i64 ((sumC (fun i => (f i).L.length) c : Nat) : Int) ∧ BX w wr K n (cauW f 18446744073709551615 c) X ∧ BoolsAt wr X o ∧ ∀ j, j < 100 → o j = true → j % n < c) (fun _ ix _ => n - (intOf ix).toNat)
      case atStart => exact ⟨0, _, Nat.zero_le _, rfl, rfl, by rw [cauW_zero]; exact HX0.out, HO0.out, fun j _ h => by cases h⟩
      case round =>
        obtain ⟨c, o, hcn, rfl, rfl, hbx, hbo, hfl⟩ := hrel
        by_cases hlt2 : c < n
        · have hlt3 : (c : Int) < (n : Int) := by omega
          have hs2 := sumC_mono (fun i => (f i).L.length) (k := c + 1) (n := n) (by omega)
          rw [HSum.out] at hs2
          have hs3 : sumC (fun i => (f i).L.length) (c + 1) = sumC (fun i => (f i).L.length) c + (f c).L.length := rfl
          have hcat := hbx.catch HT.out hlt2 (x := 18446744073709551615) ⟨by decide, by decide⟩
          rw [cauW_succ, cauW_at, HLc.out c hlt2] at hcat
          have HOut := Lib.hid (fun i (hi : i < (f c).L.length) => out_at HP2.out hlt2 (by have := HNd.out c hlt2; rw [HP2.out.now' c hlt2] at this; exact this) (x := 18446744073709551615) (i := i) (by rw [HLc.out c hlt2]; exact hi))
          obtain ⟨q, hq⟩ : ∃ q, q = sumC (fun i => (f i).L.length) c := ⟨_, rfl⟩
          obtain ⟨p, hp⟩ : ∃ p, p = (f c).L.length := ⟨_, rfl⟩
          obtain ⟨zs, hzs⟩ : ∃ zs, zs = outs (f c).L 18446744073709551615 := ⟨_, rfl⟩
          have HQn := Lib.hid (show sumC (fun i => (f i).L.length) (c + 1) = q + p by rw [hq, hp]; exact hs3)
          rw [hs3, ← hq, ← hp] at hs2
          rw [← hp, ← hzs] at hcat HOut
          rw [← hq]
          have HCat := Lib.hid hcat
          have HBo := Lib.hid hbo
          have HFl := Lib.hid hfl
          clear hbx hbo hfl hcat hs3 hq hp hzs
          go_wp2_with fail
          with_reducible refine HCat.out.mono ?_
          rintro e w3 ⟨v, rfl, hrow, hbx, hch⟩
          obtain ⟨a3, c3, rfl⟩ := own_form hrow
          have HRow := Lib.hid hrow
          have HBx := Lib.hid hbx
          have HB3 := Lib.hid (HBo.out.chP hch (fun e => e rfl))
          obtain ⟨bs, hbs⟩ : ∃ b, b = wr.heap.size := ⟨_, rfl⟩
          have HLo := Lib.hid (show X < bs from hbs ▸ HBo.out.lt)
          rw [← hbs] at HRow
          clear hrow hbx hch HCat hbs
          go_frame
          go_wp2_with fail
          go_loopw [13, 17] (fun cv ix wr => ∃ (i : Nat) (o2 : Nat → Bool), i ≤ p ∧ ix = .int .i64 (i : Int) ∧ cv = .int .i64 ((q + i : Nat) : Int) ∧ BX w wr K n (cauW f 18446744073709551615 (c + 1)) X ∧ BoolsAt wr X o2 ∧ wr.ownsRow bs 3 1 (.slice a3 p c3) p (zs.map iv) ∧ ∀ j, j < 100 → o2 j = true → j % n < c ∨ (j : Int) ∈ zs.take i) (fun _ ix _ => p - (intOf ix).toNat)
          case atStart => exact ⟨0, o, Nat.zero_le _, rfl, rfl, HBx.out, HB3.out, HRow.out, fun j hj h => .inl (HFl.out j hj h)⟩
          case round =>
            obtain ⟨i, o2, hip, rfl, rfl, hbx2, hbo2, hrow2, hfl2⟩ := hrel
            by_cases hlt4 : i < p
            · have hlt5 : (i : Int) < (p : Int) := by omega
              have hi0 : (0 : Int) ≤ (i : Int) := by omega
              obtain ⟨j, hj1, hj2, hj3, hj4⟩ := HOut.out i hlt4
              obtain ⟨g3, rfl⟩ : ∃ g, a3 = some ⟨g, 0, none⟩ := by
                rcases hrow2.2 with ⟨_, e⟩ | ⟨g, cp', cur, e, _⟩
                · omega
                · cases e; exact ⟨g, rfl⟩
              have hcell : wr.cell? ⟨g3, i, none⟩ = some (.int .i64 (j : Int)) := by
                rw [hrow2.cellAt i (by omega), List.getElem?_map, hj1]
                rfl
              have hj5 : j < 100 := by omega
              have hof : o2 j = false := by
                cases ho : o2 j with
                | false => rfl
                | true =>
                  rcases hfl2 j hj5 ho with h | h
                  · omega
                  · exact absurd h hj4
              have hoc := hbo2.at' j hj5
              rw [hof] at hoc
              have hofr := hbo2.fr j
              have hj0 : (0 : Int) ≤ (j : Int) := by omega
              have hj6 : (j : Int) < 100 := by omega
              have hjd1 : decide ((j : Int) < 0) = false := decide_eq_false (by omega)
              have hjd2 : decide ((j : Int) ≥ (k : Int)) = false := decide_eq_false (by omega)
              have hmod : (j : Int).tmod (n : Int) = (c : Int) := by rw [Int.tmod_eq_emod_of_nonneg hj0, ← Int.natCast_emod, hj3]
              have hgX : g3 ≠ X := fun e => by have := (hrow2.lt g3 rfl).1; have := HLo.out; omega
              have hn1 : ¬ n = 0 := by omega
              have HBx2 := Lib.hid (hbx2.store (ChP.setCell (S := fun k => k = X) (ChP.refl _ wr) (p := ⟨X, j, none⟩) (.inl rfl) (.bool true)))
              have HBo2 := Lib.hid (hbo2.set hj5 true)
              have HRow2 := Lib.hid (own_chP hrow2 (ChP.setCell (S := fun k => k = X) (ChP.refl _ wr) (p := ⟨X, j, none⟩) (.inl rfl) (.bool true)) (fun g hg e => by cases hg; exact hgX e))
              have HFl2 := Lib.hid hfl2
              have HJ1 := Lib.hid hj1
              have hq1 : IntKind.i64.wrap (((q + i : Nat) : Int) + 1) = ((q + (i + 1) : Nat) : Int) := by rw [IntKind.wrap_i64]; omega
              clear hbx2 hbo2 hrow2 hfl2 hj1 hj4 hof
              go_wp2_with fail
              go_roundw
              case rel => exact ⟨i + 1, _, by omega, by go_num, by first | rfl | (simp; omega), HBx2.out, HBo2.out, HRow2.out, fun j' hj' h => by
                by_cases e : j' = j
                · subst e
                  right
                  rw [List.take_add_one, HJ1.out]
                  simp
                · simp only [if_neg e] at h
                  rcases HFl2.out j' hj' h with h1 | h1
                  · exact .inl h1
                  · right
                    rw [List.take_add_one]
                    exact List.mem_append_left _ h1⟩
              case measure => simp [intOf]; omega
            · obtain rfl : i = p := by omega
              have HBx2 := Lib.hid hbx2
              have HBo2 := Lib.hid hbo2
              have HFl2 := Lib.hid hfl2
              clear hbx2 hbo2 hrow2 hfl2
              go_wp2_with fail
              go_roundw
              case rel => exact ⟨c + 1, o2, by omega, by go_num, by rw [HQn.out], HBx2.out, HBo2.out, fun j hj h => by
                rcases HFl2.out j hj h with h1 | h1
                · omega
                · obtain ⟨i', hi', e⟩ := List.mem_take_iff_getElem.1 h1
                  have hi2 : i' < i := by omega
                  obtain ⟨j2, hj1, _, hj3, _⟩ := HOut.out i' hi2
                  have : (j2 : Int) = (j : Int) := by
                    rw [List.getElem?_eq_getElem (by omega)] at hj1
                    have := Option.some.inj hj1
                    rw [← this, e]
                  have e2 : j2 = j := by omega
                  rw [← e2, hj3]
                  exact Nat.lt_succ_self _⟩
              case measure => simp [intOf]; omega
        · obtain rfl : c = n := by omega
          have hemp : lens (cauW f 18446744073709551615 c) c = 0 := sumC_zero c (fun i hi => by
            unfold cauW
            simp only [if_pos hi]
            rw [later_top (HDue.out i hi)]
            rfl)
          have hlen := hbx.bl.len
          rw [hemp] at hlen
          have hcnt : sumC (fun i => (f i).L.length) c = k := HSum.out
          rw [hcnt]
          have HKn := Lib.hid (known_any _ (hbx.bl.tab HT.out))
          have HBx := Lib.hid hbx
          clear hbx hbo hfl hemp hlen hcnt
          go_wp2_with fail
          with_reducible refine HKn.out.mono ?_
          rintro e w5 ⟨rfl, hb5⟩
          have hbl5 := HBx.out.bl.quiet (.of_below hb5)
          have hlen := hbl5.len
          rw [show lens (cauW f 18446744073709551615 c) c = 0 from sumC_zero c (fun i hi => by
            unfold cauW
            simp only [if_pos hi]
            rw [later_top (HDue.out i hi)]
            rfl)] at hlen
          have HLn := Lib.hid hlen
          have HBl := Lib.hid hbl5.bel
          clear hb5 hbl5 hlen
          go_frame
          go_wp2_with fail
          with_reducible refine HLn.out.mono ?_
          rintro e w6 ⟨rfl, hc6⟩
          have HB6 := Lib.hid (HBl.out.trans (hc6.below w.heap.size (by simp) HBl.out.size))
          clear hc6
          go_frame
          go_wp2
          go_ret
          exact ⟨rfl, HB6.out⟩
theorem all_law (a0 : Int) {now : Int} (hn : Wd now) (a : Option Addr) (len cap : Nat) (z : Nat → Int) (w : World) (hT : Mk.Tab w) (hlc : len ≤ cap) (hcm : cap ≤ 9223372036854775807) (hz : WordsAt w a len z) :
    Calls Tryd.prog 4 #[.int .i64 a0, .int .u64 now, .slice a len cap] w fun e w' => e = .returned (.bool true) ∧ Below w.heap.size w w' := by
  by_cases hm : now = 18446744073709551615
  · subst hm
    exact all_max a0 a len cap w hT
  · exact all_some a0 hn hm a len cap z w hT hlc hcm hz
end Go.Proofs.YtnndofeomakpiaaDoor

/-
  The law GraceEnds, walked.
-/
import Derived.Test.YtjoaigadlpndcaaDoorGrL
namespace Go.Proofs.YtjoaigadlpndcaaDoor
open Go.RowKit Go.Shelf
open rC (Th)

/-- Behind k acts: tN are told of cN that were called. -/
structure EE (w0 w : World) (base a L bI k : Nat) (l : LS) (tN cN : Nat) : Prop where
  b : EB w0 w base a L bI k l
  len : ∀ i, (l.A i).length + (l.B i).length ≤ k
  cnt : tN + ((catI l.A 4).length + (catI l.B 4).length) = cN
  cn : cN ≤ k
theorem cnt_true (l : List Int) : l.countP (fun _ => true) = l.length := by simp
section
variable {w0 w w' : World} {base a L bI k : Nat} {l : LS} {tN cN : Nat}
theorem EE.add (h : EE w0 w base a L bI k l tN cN) {c : Nat} (hc : c < 4) (z : Int) (hb : EB w0 w' base a L bI (k + 1) (l.add c z)) : EE w0 w' base a L bI (k + 1) (l.add c z) tN (cN + 1) := by
  refine ⟨hb, fun i => ?_, ?_, by have := h.cn; omega⟩
  · have h1 := h.len i
    show (l.A i).length + (addI l.B c z i).length ≤ k + 1
    unfold addI
    split
    · simp; omega
    · omega
  · have h1 := (catI_add l.B c z 4 hc).length_eq
    have h2 := h.cnt
    show tN + ((catI l.A 4).length + (catI (addI l.B c z) 4).length) = cN + 1
    simp at h1
    omega
theorem EE.poll (h : EE w0 w base a L bI k l tN cN) (c : Nat) (hb : EB w0 w' base a L bI (k + 1) (pollLS c 4 l)) : EE w0 w' base a L bI (k + 1) (pollLS c 4 l) (tN + (outL 4 l).length) cN := by
  have h1 := poll_cnt (fun _ => true) c 4 h.b.li
  simp only [cnt_true] at h1
  have h2 := h.cnt
  exact ⟨hb, fun i => by have := poll_len c 4 h.b.li i; have := h.len i; omega, by omega, by have := h.cn; omega⟩
theorem EE.keep {l' : LS} (h : EE w0 w base a L bI k l tN cN) (hA : l'.A = l.A) (hB : l'.B = l.B) (hb : EB w0 w' base a L bI (k + 1) l') : EE w0 w' base a L bI (k + 1) l' tN cN :=
  ⟨hb, fun i => by rw [hA, hB]; have := h.len i; omega, by rw [hA, hB]; exact h.cnt, by have := h.cn; omega⟩
theorem EE.quiet (h : EE w0 w base a L bI k l tN cN) (hc : Ch [] w w') : EE w0 w' base a L bI k l tN cN := ⟨h.b.quiet hc, h.len, h.cnt, h.cn⟩
end
/-- A CPU's number, as the law takes it. -/
def cW (r : Int) : Nat := (IntKind.u64.wrap r % 4).toNat
theorem cW_spec (r : Int) : cW r < 4 ∧ (IntKind.u64.wrap r).tmod 4 = ((cW r : Nat) : Int) := by
  have u0 : 0 ≤ IntKind.u64.wrap r := by rw [IntKind.wrap_u64]; omega
  rw [Int.tmod_eq_emod_of_nonneg u0]
  unfold cW
  constructor <;> omega
/-- The picture's depths alone. -/
structure DM (w : World) (b : Nat) (x : SS) : Prop where
  d : ∀ i, i < 64 → w.cell? ⟨b, i, none⟩ = some (.int .i64 (x.d i))
  fr : ∀ k, w.frozen? ⟨b, k, none⟩ = false
  lt : b < w.heap.size
theorem DM.same {w w' : World} {b : Nat} {x : SS} (h : DM w b x) (hs : w'.heap[b]? = w.heap[b]?) (hl : w.heap.size ≤ w'.heap.size) : DM w' b x :=
  ⟨fun i hi => (World.cell?_of_block (a := ⟨b, i, none⟩) hs).trans (h.d i hi), fun k => (World.frozen?_of_block (a := ⟨b, k, none⟩) hs).trans (h.fr k), Nat.lt_of_lt_of_le h.lt hl⟩
theorem DM.set {w : World} {b : Nat} {x y : SS} (h : DM w b x) {r : Nat} (hr : r < 64) {v : Int} (hy : ∀ i, y.d i = if i = r then v else x.d i) : DM (w.setCell ⟨b, r, none⟩ (.int .i64 v)) b y :=
  ⟨fun i hi => by
    rw [hy i]
    by_cases e : i = r
    · subst e; rw [setCell_same (h.d i hi), if_pos rfl]
    · rw [setCell_other (h.d i hi) (addr_ne_off (by omega)), if_neg e], fun k => by simpa using h.fr k, by simpa [World.setCell] using h.lt⟩
/-- The law's domain when the acts are over: without the picture. -/
structure EF (w0 w : World) (base a L : Nat) (l : LS) (tN cN : Nat) (g : Int) : Prop where
  d : DL w0 w base a L 4 (dmOf l)
  lw : L ≤ w.heap.size
  li : LI l
  gn : l.gen ≤ g
  sup : ∀ i, 4 ≤ i → l.B i = []
  cnt : tN + ((catI l.A 4).length + (catI l.B 4).length) = cN
def LS.with (l : LS) (y : SS) : LS := ⟨y, l.A, l.B, l.gen, l.wnt, l.sc⟩
section
variable {w0 w w' : World} {base a L bI k : Nat} {l : LS} {tN cN : Nat} {g : Int}
theorem EE.ef (h : EE w0 w base a L bI k l tN cN) : EF w0 w base a L l tN cN k := ⟨h.b.d, h.b.o.2.2, h.b.li, h.b.gn, h.b.sup, h.cnt⟩
theorem EE.dm (h : EE w0 w base a L bI k l tN cN) : DM w bI l.x := ⟨h.b.i.d, h.b.i.fr, h.b.i.lt⟩
theorem EF.exit (h : EF w0 w base a L l tN cN g) {r : Nat} (hr : r < 64) (h0 : 0 < l.x.d r) :
    Calls Tryd.prog 17 #[.pointer (some ⟨a, 0, none⟩), .int .i64 (r : Int)] w fun e w' => (∃ u, e = .returned (.tuple #[.bool u, .int .i64 0])) ∧ EF w0 w' base a L (l.with (outS l.x r)) tN cN g ∧ ChP (GO base a l.sc) w w' := by
  obtain ⟨hE, _, hS⟩ := exitB_at h.d.gs hr
  have hne : l.x.d r ≠ 0 := by omega
  refine (h.d.exit (r : Int) rfl hE).mono ?_
  rintro e w' ⟨rfl, hd, hc⟩
  rw [if_neg (show ¬ (dmOf l).x.d r = 0 from hne)]
  have e2 : exitS (dmOf l).x (r : Int) = outS l.x r := hS hne
  rw [e2] at hd
  exact ⟨⟨_, rfl⟩, ⟨hd, Nat.le_trans h.lw hc.size, ⟨h.li.g0, h.li.run, h.li.idle, h.li.wnt⟩, h.gn, h.sup, h.cnt⟩, hc⟩
theorem EF.same {T : Nat → Prop} (h : EF w0 w base a L l tN cN g) (hc : ChP T w w') (hT : ∀ j, T j → a < j ∧ j < L) : EF w0 w' base a L l tN cN g :=
  ⟨h.d.same hc (fun j hj => ⟨by have := h.d.lo; have := (hT j hj).1; omega, h.d.own (hT j hj).1 (hT j hj).2⟩), Nat.le_trans h.lw hc.size, h.li, h.gn, h.sup, h.cnt⟩
theorem EF.quiet (h : EF w0 w base a L l tN cN g) (hc : Ch [] w w') : EF w0 w' base a L l tN cN g := ⟨h.d.quiet hc, Nat.le_trans h.lw hc.size, h.li, h.gn, h.sup, h.cnt⟩
theorem EF.up (h : EF w0 w base a L l tN cN g) {g' : Int} (hg : g ≤ g') : EF w0 w base a L l tN cN g' := ⟨h.d, h.lw, h.li, by have := h.gn; omega, h.sup, h.cnt⟩
theorem with_x (l : LS) (x : SS) : (l.with x).x = x := rfl
theorem EF.gb (h : EF w0 w base a L l tN cN g) (hg : g ≤ 1000) : 0 ≤ (dmOf l).gen ∧ (dmOf l).gen ≤ 1000000 := ⟨h.li.g0, by have := h.gn; show l.gen ≤ 1000000; omega⟩
theorem EF.poll (h : EF w0 w base a L l tN cN g) (hg : g ≤ 900) {O : List Int} (hO : outL 4 l = O) (hx : ∀ r, r < 64 → l.x.d r = 0) :
    Calls Tryd.prog 13 #[.pointer (some ⟨a, 0, none⟩)] w fun e w' => ∃ ad cap, e = .returned (.slice ad O.length cap) ∧ ∃ l', l'.x = l.x ∧ l'.wnt = l.wnt ∧ potL 4 l' ≤ potL 4 l - 1 ∧ EF w0 w' base a L l' (tN + O.length) cN (g + 1) := by
  have h0 := poll_dm h.li
  have hP : ∀ s, l.sc = some s → s.P < 64 := fun s e => by
    obtain ⟨top, b, A, hg⟩ := h.d
    exact (hg.sn s e).2.2
  have hgs : GS l.x := h.d.gs
  refine (h.d.poll h.lw (h.gb (by omega)) (O := O) ((h0 0 4 h.sup).2.1.trans hO)).mono ?_
  rintro e w' ⟨ad, cap, rfl, hrow, c, hlo, hd, hc⟩
  obtain ⟨h1, _, h3⟩ := h0 c 4 h.sup
  have hpx := poll_x c 4 l
  rw [h1] at hd
  have hcn := poll_cnt (fun _ => true) c 4 h.li
  simp only [cnt_true] at hcn
  rw [hO] at hcn
  have hct := h.cnt
  exact ⟨ad, cap, rfl, pollLS c 4 l, hpx.1, hpx.2.1, poll_pot c 4 h.li hx hgs hP, hd, Nat.le_trans h.lw hc.size, h3, by have := hpx.2.2.2; have := h.gn; omega, poll_B c 4 h.sup, by omega⟩
end
set_option maxRecDepth 100000 in
set_option maxHeartbeats 8000000 in
theorem ends_law (a0 : Option Addr) (len0 cap0 : Nat) (w : World) (hT : Mk.Tab w) (_ : len0 ≤ 9223372036854775807) (ha : ActsAt w a0 len0) :
    Calls Tryd.prog 4 #[.slice a0 len0 cap0] w fun e w' => e = .returned (.bool true) ∧ Below w.heap.size w w' := by
  have HAc := Lib.hid ha
  have HT := Lib.hid hT
  have HN := Lib.hid (show Calls Tryd.prog 7 #[.int .i64 4] w _ from dl_new (n := 4) (Ch.refl [] w) hT (by decide) (by decide))
  clear ha hT
  go_enter Tryd.func4, Tryd.ntmps4
  go_wp2_with fail
  with_reducible refine HN.out.mono ?_
  rintro e w1 ⟨a, rfl, h1, hc1⟩
  have hz := insZ_zero w1
  have H1 := Lib.hid h1
  clear h1 hc1 HN
  go_wp2_with fail
  obtain ⟨bI, hbI⟩ : ∃ b, b = w1.heap.size := ⟨_, rfl⟩
  obtain ⟨w2, hw2⟩ : ∃ W, W = w1.alloc (.cells insZ 29) := ⟨_, rfl⟩
  have hal : Ch [] w1 w2 := by rw [hw2]; exact (Ch.refl [] w1).alloc _
  have hI : IB w2 bI SS.zero := by rw [hw2, hbI]; exact IB.new w1 _
  have hs2 : w2.heap.size = bI + 1 := by rw [hw2, hbI]; simp
  have hd2 : DL w w2 w.heap.size a w2.heap.size 4 (dmOf lZ) := by
    rw [lZ_dm]
    exact (H1.out.quiet hal).lift rfl hal.size
  have HE0 := Lib.hid (show EE w w2 w.heap.size a w2.heap.size bI 0 lZ 0 0 from
    ⟨⟨hd2, hI, ⟨by rw [hbI]; exact H1.out.al, by omega, Nat.le_refl _⟩, LI.zero, by decide, by decide, fun _ _ => rfl, by decide⟩, fun _ => by simp [lZ, nilI], by rw [show lZ.A = nilI from rfl, show lZ.B = nilI from rfl, catI_nil]; rfl, by decide⟩)
  rw [← hw2, ← hbI]
  generalize hL : w2.heap.size = L at *
  clear hw2 hal hI hs2 hd2 hbI hz H1 hL
  generalize w.heap.size = S at *
  go_loopw [6, 7, 8, 9] (fun wa ca te ix wr => ∃ (k : Nat) (l : LS) (tN cN : Nat), k ≤ 60 ∧ ix = .int .i64 (k : Int) ∧ wa = .int .i64 l.wnt ∧ ca = .int .i64 (cN : Int) ∧ te = .int .i64 (tN : Int) ∧ EE w wr S a L bI k l tN cN) (fun _ _ _ ix _ => 60 - (intOf ix).toNat)
  case atStart => exact ⟨0, lZ, 0, 0, by decide, rfl, rfl, rfl, rfl, HE0.out⟩
  case round =>
    obtain ⟨k, l, tN, cN, hk, rfl, rfl, rfl, rfl, he⟩ := hrel
    clear HE0
    by_cases hgo : k < len0 ∧ k < 60
    · obtain ⟨hlt, hlt6⟩ := hgo
      have hlt' : (k : Int) < (len0 : Int) := by omega
      have hlt6' : (k : Int) < 60 := by omega
      rcases HAc.out.ch he.b.ch with h0 | ⟨g, off, rfl, hcc⟩
      · exfalso; omega
      · obtain ⟨K, R, C, Id, q0, q1, q2, q3⟩ := hcc k hlt
        obtain ⟨U, hU⟩ : ∃ U, IntKind.u64.wrap K = U := ⟨_, rfl⟩
        obtain ⟨M, hM⟩ : ∃ M, U.tmod 6 = M := ⟨_, rfl⟩
        have HE := Lib.hid he
        have HLt := Lib.hid (And.intro hlt hlt6)
        obtain ⟨w3, hw3⟩ : ∃ W, W = wr.alloc (.cells #[.int .i64 K, .int .i64 R, .int .i64 C, .int .i64 Id] 33) := ⟨_, rfl⟩
        have hal : Ch [] wr w3 := by rw [hw3]; exact (Ch.refl [] wr).alloc _
        have he3 := he.quiet hal
        have HE3 := Lib.hid he3
        have HW3 := Lib.hid hw3
        clear hcc he hlt hlt6 hal he3 hw3
        by_cases h0 : M = 0
        · subst h0
          have C1 := Lib.hid (HE3.out.b.enter (by omega) R)
          go_wp2_with fail
          rw [← HW3.out]
          with_reducible refine C1.out.mono ?_
          rintro e w4 ⟨⟨v, rfl⟩, hb, -⟩
          have HF := Lib.hid (HE3.out.keep (l' := l.inn R) rfl rfl hb)
          clear hb C1
          go_wp2_with fail
          go_roundw
          case rel => exact ⟨k + 1, l.inn R, tN, cN, by omega, by go_num, rfl, rfl, rfl, HF.out⟩
          case measure => simp [intOf]; omega
        by_cases h1 : M = 1
        · subst h1
          have C1 := Lib.hid (HE3.out.b.exit (by omega) R)
          clear h0
          go_wp2_with fail
          rw [← HW3.out]
          with_reducible refine C1.out.mono ?_
          rintro e w4 ⟨⟨v, rfl⟩, hb, -⟩
          have HF := Lib.hid (HE3.out.keep (l' := l.out R) rfl rfl hb)
          clear hb C1
          go_wp2_with fail
          go_roundw
          case rel => exact ⟨k + 1, l.out R, tN, cN, by omega, by go_num, rfl, rfl, rfl, HF.out⟩
          case measure => simp [intOf]; omega
        by_cases h2 : M = 2
        · subst h2
          obtain ⟨hc4, hcu⟩ := cW_spec C
          obtain ⟨c, hcd⟩ : ∃ c, c = cW C := ⟨_, rfl⟩
          rw [← hcd] at hc4 hcu
          obtain ⟨U2, hU2⟩ : ∃ U, IntKind.u64.wrap C = U := ⟨_, rfl⟩
          rw [hU2] at hcu
          have hwk : IntKind.i64.wrap (c : Int) = (c : Int) := IntWalk.i64_in _ (by omega)
          have hcn := HE.out.cn
          have hwc : IntKind.i64.wrap ((cN : Int) + 1) = ((cN + 1 : Nat) : Int) := by rw [IntWalk.i64_in _ (by omega)]; rfl
          have C1 := Lib.hid (HE3.out.b.call (by omega) hc4 (k : Int) (by have := HE3.out.len c; omega) 3)
          have HF0 := Lib.hid (fun w' => HE3.out.add (w' := w') hc4 (k : Int))
          have hs3 : wr.heap.size + 1 = w3.heap.size := by rw [HW3.out]; simp
          have HS3 := Lib.hid hs3
          clear h0 h1 hcd hc4 hcn hs3
          go_wp2_with fail
          rw [← HW3.out, HS3.out]
          with_reducible refine C1.out.mono ?_
          rintro e w4 ⟨rfl, hb, -⟩
          have HF := Lib.hid (HF0.out w4 hb)
          clear hb C1 HF0
          go_wp2_with fail
          go_roundw
          case rel => exact ⟨k + 1, l.add c (k : Int), tN, cN + 1, by omega, by go_num, rfl, rfl, rfl, HF.out⟩
          case measure => simp [intOf]; omega
        by_cases h3 : M = 3
        · subst h3
          have C1 := Lib.hid (HE3.out.b.ticket (by omega) rfl)
          clear h0 h1 h2
          go_wp2_with fail
          rw [← HW3.out]
          with_reducible refine C1.out.mono ?_
          rintro e w4 ⟨rfl, hb, -⟩
          have HF := Lib.hid (HE3.out.keep (l' := l.tik) rfl rfl hb)
          clear hb C1
          go_wp2_with fail
          go_roundw
          case rel => exact ⟨k + 1, l.tik, tN, cN, by omega, by go_num, rfl, rfl, rfl, HF.out⟩
          case measure => simp [intOf]; omega
        · have b0 : (M == 0) = false := by simpa using h0
          have b1 : (M == 1) = false := by simpa using h1
          have b2 : (M == 2) = false := by simpa using h2
          have b3 : (M == 3) = false := by simpa using h3
          obtain ⟨O, hO⟩ : ∃ O, outL 4 l = O := ⟨_, rfl⟩
          have C1 := Lib.hid (HE3.out.b.poll (by omega) hO)
          have hcn := HE.out.cn
          have hwc : ∀ (c : Nat) (w' : World), EB w w' S a L bI (k + 1) (pollLS c 4 l) → IntKind.i64.wrap ((tN : Int) + (O.length : Int)) = ((tN + O.length : Nat) : Int) ∧ EE w w' S a L bI (k + 1) (pollLS c 4 l) (tN + O.length) cN := fun c w' hb => by
            have hp := HE3.out.poll c hb
            rw [hO] at hp
            have h4 := hp.cnt
            exact ⟨by rw [IntWalk.i64_in _ (by omega)]; rfl, hp⟩
          have HWc := Lib.hid hwc
          clear h0 h1 h2 h3 hO hcn hwc
          go_wp2_with fail
          rw [← HW3.out]
          with_reducible refine C1.out.mono ?_
          rintro e w4 ⟨ad, cap, rfl, -, -, c, -, hb, -⟩
          obtain ⟨hwt, hf⟩ := HWc.out c w4 hb
          have HF := Lib.hid hf
          clear hb C1 HWc hf
          generalize O.length = m at *
          go_wp2_with fail
          go_roundw
          case rel => exact ⟨k + 1, pollLS c 4 l, tN + m, cN, by omega, by go_num, by rw [(poll_x c 4 l).2.1], rfl, rfl, HF.out⟩
          case measure => simp [intOf]; omega
    · have hcond : ((k : Int) < (len0 : Int) ∧ ¬ (k : Int) < 60) ∨ ¬ (k : Int) < (len0 : Int) := by
        by_cases hkn : (k : Int) < (len0 : Int)
        · exact .inl ⟨hkn, by omega⟩
        · exact .inr hkn
      have HF := Lib.hid (show EF w wr S a L (l.with l.x) tN cN 60 from he.ef.up (by omega))
      have HD := Lib.hid he.dm
      have HO := Lib.hid (And.intro he.b.o.1 he.b.o.2.1)
      have HCn := Lib.hid (show cN ≤ 60 by have := he.cn; omega)
      clear he hgo hk HAc
      rcases hcond with ⟨hq1, hq2⟩ | hq1
      all_goals
        go_wp2_with fail
        clear hq1
        try clear hq2
        go_loopw [11] (fun ix wr => ∃ (r : Nat) (y : SS), r ≤ 64 ∧ ix = .int .i64 (r : Int) ∧ (∀ i, i < r → y.d i = 0) ∧ EF w wr S a L (l.with y) tN cN 60 ∧ DM wr bI y) (fun ix _ => 64 - (intOf ix).toNat)
        case atStart => exact ⟨0, l.x, by decide, rfl, fun i hi => by omega, HF.out, HD.out⟩
        case round =>
          obtain ⟨r, y, hr, rfl, hz, hf, hdm⟩ := hrel
          clear HF HD
          by_cases hlt : r < 64
          · have hlt' : (r : Int) < 64 := by omega
            have HZ := Lib.hid hz
            have HF := Lib.hid hf
            have HD := Lib.hid hdm
            clear hz hf hdm
            go_wp2_with fail
            go_loopw [78] (fun _ wr => ∃ (y : SS), (∀ i, i < r → y.d i = 0) ∧ EF w wr S a L (l.with y) tN cN 60 ∧ DM wr bI y) (fun _ wq => (intOf ((wq.cell? ⟨bI, r, none⟩).getD undef)).toNat)
            case atStart => exact ⟨y, HZ.out, HF.out, HD.out⟩
            case round =>
              clear HZ HF HD
              obtain ⟨y, hz, hf, hdm⟩ := hrel
              have c := hdm.d r hlt
              by_cases hgt : 0 < y.d r
              · obtain ⟨v, hv⟩ : ∃ v, v = y.d r := ⟨_, rfl⟩
                have h8 : y.d r ≤ 8 := hf.d.gs.d8 r
                have hgt0 := hgt
                rw [← hv] at c hgt
                have hw1 : IntKind.i64.wrap (v - 1) = v - 1 := IntWalk.i64_in _ (by omega)
                have f := hdm.fr r
                have hy : ∀ i, (outS y r).d i = if i = r then v - 1 else y.d i := fun i => by rw [outS_d, hv]
                obtain ⟨w5, hw5⟩ : ∃ W, W = wr.setCell ⟨bI, r, none⟩ (.int .i64 (v - 1)) := ⟨_, rfl⟩
                have hP : ChP (fun j => j = bI) wr w5 := by rw [hw5]; exact (ChP.refl (fun j => j = bI) wr).setCell (p := ⟨bI, r, none⟩) (.inl rfl) _
                have HD5 := Lib.hid (show DM w5 bI (outS y r) from by rw [hw5]; exact hdm.set hlt hy)
                have hf5 := hf.same hP (fun j e => e ▸ HO.out)
                have C1 := Lib.hid (hf5.exit hlt (show 0 < (l.with y).x.d r from hgt0))
                have HNo := Lib.hid (hf5.d.own HO.out.1 HO.out.2)
                have HZ := Lib.hid (fun i (hi : i < r) => show (outS y r).d i = 0 from by rw [hy, if_neg (by omega)]; exact hz i hi)
                have HM := Lib.hid (show ((v - 1).toNat < v.toNat) by omega)
                have HW5 := Lib.hid hw5
                have HV := Lib.hid hv
                clear hz hf hdm h8 hgt0 hy hP hf5 hw5 hv
                go_wp2_with fail
                rw [← HW5.out]
                with_reducible refine C1.out.mono ?_
                rintro e w6 ⟨⟨u, rfl⟩, hf6, hc6⟩
                have hd6 := HD5.out.same (hc6.block bI HD5.out.lt HNo.out) hc6.size
                have HF6 := Lib.hid hf6
                have HD6 := Lib.hid hd6
                have c6 := Lib.hid (hd6.d r hlt)
                clear hf6 hc6 hd6 C1
                go_wp2_with fail
                go_roundw
                case rel => exact ⟨outS y r, HZ.out, HF6.out, HD6.out⟩
                case measure =>
                  rw [c6.out, c, outS_d, if_pos rfl, ← HV.out]
                  simpa [intOf] using HM.out
              · have h0 : y.d r = 0 := by have := hf.d.gs.d0 r; change 0 ≤ y.d r at this; omega
                rw [h0] at c
                have HZ := Lib.hid (fun i (hi : i < r + 1) => show y.d i = 0 from by
                  by_cases e : i = r
                  · rw [e]; exact h0
                  · exact hz i (by omega))
                have HF := Lib.hid hf
                have HD := Lib.hid hdm
                clear hz hf hdm hgt h0
                go_wp2_with fail
                go_roundw
                case rel => exact ⟨r + 1, y, by omega, by go_num, HZ.out, HF.out, HD.out⟩
                case measure => simp [intOf]; omega
          · have HX := Lib.hid (show ∀ i, i < 64 → (l.with y).x.d i = 0 from fun i hi => hz i (by omega))
            have HF := Lib.hid hf
            clear hz hf hdm hr
            go_wp2_with fail
            go_loopw [8, 14] (fun te jx wr => ∃ (j tM : Nat) (m : LS), j ≤ 8 ∧ jx = .int .i64 (j : Int) ∧ te = .int .i64 (tM : Int) ∧ m.x = y ∧ m.wnt = l.wnt ∧ (potL 4 m + j ≤ 5 ∨ potL 4 m = 0) ∧ EF w wr S a L m tM cN (60 + (j : Int))) (fun _ jx _ => 8 - (intOf jx).toNat)
            case atStart => exact ⟨0, tN, l.with y, by decide, rfl, rfl, rfl, rfl, .inl (by have := pot_start 4 (l.with y); omega), HF.out⟩
            case round =>
              clear HF
              obtain ⟨j, tM, m, hj, rfl, rfl, hmx, hmw, hpot, hf⟩ := hrel
              by_cases hj8 : j < 8
              · have hj8' : (j : Int) < 8 := by omega
                obtain ⟨O, hO⟩ : ∃ O, outL 4 m = O := ⟨_, rfl⟩
                have C1 := Lib.hid (hf.poll (by omega) hO (by rw [hmx]; exact HX.out))
                have HMx := Lib.hid (And.intro hmx (And.intro hmw hpot))
                have HJ := Lib.hid (show (60 : Int) + (j : Int) + 1 = 60 + ((j + 1 : Nat) : Int) by omega)
                have HCt := Lib.hid (fun (w' : World) (m' : LS) (g : Int) (h : EF w w' S a L m' (tM + O.length) cN g) => show IntKind.i64.wrap ((tM : Int) + (O.length : Int)) = ((tM + O.length : Nat) : Int) from by
                  have h4 := h.cnt
                  have h5 := HCn.out
                  rw [IntWalk.i64_in _ (by omega)]
                  rfl)
                clear hf hO hmx hmw hpot
                go_wp2_with fail
                with_reducible refine C1.out.mono ?_
                rintro e w7 ⟨ad, cap, rfl, m', hx', hw', hp', hf'⟩
                have hwt := HCt.out w7 m' _ hf'
                rw [HJ.out] at hf'
                have HF' := Lib.hid hf'
                have HM' := Lib.hid (show m'.x = y ∧ m'.wnt = l.wnt ∧ (potL 4 m' + (j + 1) ≤ 5 ∨ potL 4 m' = 0) from ⟨hx'.trans HMx.out.1, hw'.trans HMx.out.2.1, by have := HMx.out.2.2; omega⟩)
                clear hf' hx' hw' hp' C1 HCt HMx
                generalize O.length = q at *
                go_wp2_with fail
                go_roundw
                case rel => exact ⟨j + 1, tM + q, m', by omega, by go_num, rfl, HM'.out.1, HM'.out.2.1, HM'.out.2.2, HF'.out⟩
                case measure => simp [intOf]; omega
              · have hp0 : potL 4 m = 0 := by omega
                obtain ⟨z1, z2, z3, z4⟩ := pot_zero hf.li hp0
                have hct := hf.cnt
                rw [z2, z3] at hct
                obtain rfl : tM = cN := by simpa using hct
                have hmn : mskN (inP (dmOf m).x) = 0 := mskN_none fun i hi => by
                  show inP m.x i = false
                  rw [hmx]
                  unfold inP
                  rw [show y.d i = 0 from HX.out i hi]
                  rfl
                have hdone : doneV (dmOf m) = m.gen := by unfold doneV dmOf; dsimp only; rw [z1]; rfl
                have hov : decide (l.wnt ≤ doneV (dmOf m)) = true := by rw [hdone, ← hmw]; exact decide_eq_true z4
                have hwt : lnI (catL (dmOf m).f 4) = 0 := by
                  show lnI (catL (fAB m.gen m.A m.B) 4) = 0
                  rw [fAB_waits, z2, z3]; rfl
                have hrn : (dmOf m).sc.isSome = false := by show m.sc.isSome = false; rw [z1]; rfl
                have C1 := Lib.hid (known_any wr (tab_ch HT.out hf.d.ch (by simp)))
                have C2 := Lib.hid (fun (w' : World) (hc : Ch [] wr w') => (hf.d.quiet hc).in hmn)
                have C3 := Lib.hid (fun (w' : World) (h : DL w w' S a L 4 (dmOf m)) => h.waiting hwt)
                have C4 := Lib.hid (fun (w' : World) (h : DL w w' S a L 4 (dmOf m)) => h.over (hf.gb (by omega) |>.imp (fun h => by omega) id) l.wnt hov)
                have C5 := Lib.hid (fun (w' : World) (h : DL w w' S a L 4 (dmOf m)) => h.running hrn)
                clear hf hmx hmw hpot hp0 z1 z2 z3 z4 hct hmn hdone hov hwt hrn hj
                go_wp2_with fail
                with_reducible refine C1.out.mono ?_
                rintro e w8 ⟨rfl, hc8⟩
                have C2 := Lib.hid (C2.out w8 hc8)
                clear hc8 C1
                go_wp2_with fail
                with_reducible refine C2.out.mono ?_
                rintro e w9 ⟨rfl, hd9, -⟩
                have C3 := Lib.hid (C3.out w9 hd9)
                clear hd9 C2
                go_wp2_with fail
                with_reducible refine C3.out.mono ?_
                rintro e w10 ⟨rfl, hd10, -⟩
                have C4 := Lib.hid (C4.out w10 hd10)
                have C5 := Lib.hid (C5.out w10 hd10)
                have HCh := Lib.hid hd10.ch
                clear hd10 C3
                go_wp2_with fail
                with_reducible refine C4.out.mono ?_
                rintro e w' ⟨rfl, rfl⟩
                go_wp2_with fail
                with_reducible refine C5.out.mono ?_
                rintro e w' ⟨rfl, rfl⟩
                go_wp2_with fail
                go_ret
                exact ⟨rfl, HCh.out.below _ (by simp) (Nat.le_refl _)⟩
end Go.Proofs.YtjoaigadlpndcaaDoor

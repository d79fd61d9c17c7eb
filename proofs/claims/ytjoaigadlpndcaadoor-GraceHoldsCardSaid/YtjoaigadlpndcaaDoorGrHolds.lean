/-
  The law GraceHolds, walked.
-/
import Derived.Test.YtjoaigadlpndcaaDoorGrHm
namespace Go.Proofs.YtjoaigadlpndcaaDoor
open Go.RowKit Go.Shelf

/-- The law behind k acts. -/
structure HS (w0 w : World) (base a L bI bA bT bK k : Nat) (l : LS) (at' : Nat → Nat → Int) (tf kf : Nat → Int) : Prop where
  b : EB w0 w base a L bI k l
  m : HM w bA bT bK at' tf kf
  p : PI k l at' tf kf
  len : ∀ c, c < 4 → 4 * ((l.A c).length + (l.B c).length) + c ≤ k + 3
  o : bI < bA ∧ bA < bT ∧ bT < bK ∧ bK < L
section
variable {w0 w w' : World} {base a L bI bA bT bK k : Nat} {l : LS} {at' : Nat → Nat → Int} {tf kf : Nat → Int}
theorem HS.gs (h : HS w0 w base a L bI bA bT bK k l at' tf kf) : GS l.x := h.b.d.gs
theorem HS.mem (h : HS w0 w base a L bI bA bT bK k l at' tf kf) (hc : ChP (GI base a l.sc bI) w w') : HM w' bA bT bK at' tf kf := by
  have ho := h.o
  have h1 := h.b.o.1
  exact h.m.chP hc (h.b.aside (by omega) (by omega) (by omega)) (h.b.aside (by omega) (by omega) (by omega)) (h.b.aside (by omega) (by omega) (by omega))
theorem HS.quiet (h : HS w0 w base a L bI bA bT bK k l at' tf kf) (hc : Ch [] w w') : HS w0 w' base a L bI bA bT bK k l at' tf kf := ⟨h.b.quiet hc, h.m.ch hc, h.p, h.len, h.o⟩
theorem HS.enter (h : HS w0 w base a L bI bA bT bK k l at' tf kf) (r : Int) (hb : EB w0 w' base a L bI (k + 1) (l.inn r)) (hc : ChP (GI base a l.sc bI) w w') : HS w0 w' base a L bI bA bT bK (k + 1) (l.inn r) at' tf kf :=
  ⟨hb, h.mem hc, h.p.sect (goes_enter l.x (rW r : Int)), fun c hc => by have := h.len c hc; show 4 * ((l.A c).length + (l.B c).length) + c ≤ k + 1 + 3; omega, h.o⟩
theorem HS.exit (h : HS w0 w base a L bI bA bT bK k l at' tf kf) (r : Int) (hb : EB w0 w' base a L bI (k + 1) (l.out r)) (hc : ChP (GI base a l.sc bI) w w') : HS w0 w' base a L bI bA bT bK (k + 1) (l.out r) at' tf kf :=
  ⟨hb, h.mem hc, h.p.sect (goes_exit l.x (rW r : Int)), fun c hc => by have := h.len c hc; show 4 * ((l.A c).length + (l.B c).length) + c ≤ k + 1 + 3; omega, h.o⟩
/-- What the law itself writes into its arrays. -/
theorem HS.wrote (h : HS w0 w base a L bI bA bT bK k l at' tf kf) (hc : ChP (fun j => j = bA ∨ j = bT ∨ j = bK) w w') : EB w0 w' base a L bI k l := by
  have ho := h.o
  have h1 := h.b.o.1
  exact h.b.same hc (fun j hj => by rcases hj with rfl | rfl | rfl <;> omega)
end
theorem add_lenH {l : LS} {k D : Nat} (h : ∀ c, c < 4 → 4 * ((l.A c).length + (l.B c).length) + c ≤ k + D) (hD : D % 4 = 3) {c : Nat} (hc : k % 4 = c) (z : Int) : ∀ i, i < 4 → 4 * (((l.add c z).A i).length + ((l.add c z).B i).length) + i ≤ k + 1 + D := by
  intro i hi
  have h1 := h i hi
  show 4 * ((l.A i).length + (addI l.B c z i).length) + i ≤ k + 1 + D
  unfold addI
  split
  · rename_i e
    rw [List.length_append, List.length_singleton]
    omega
  · omega
theorem told_take {tf : Nat → Int} {O : List Int} {i n : Nat} (hi : O[i]? = some (n : Int)) : toldF tf (O.take (i + 1)) = putF (toldF tf (O.take i)) n 2 := by
  funext m
  unfold toldF putF
  rw [List.take_add_one, hi]
  by_cases e : m = n
  · subst e; simp
  · rw [if_neg e]
    have e2 : ¬ (m : Int) = (n : Int) := by omega
    simp [e2]
theorem not_before {O : List Int} (hn : O.Nodup) {i : Nat} {z : Int} (hi : O[i]? = some z) : z ∉ O.take i := by
  intro hm
  obtain ⟨j, hj⟩ := List.mem_iff_getElem?.1 hm
  have hji : j < i := by
    have := (List.getElem?_eq_some_iff.1 hj).1
    rw [List.length_take] at this
    omega
  rw [List.getElem?_take_of_lt hji] at hj
  obtain ⟨h1, e1⟩ := List.getElem?_eq_some_iff.1 hj
  obtain ⟨h2, e2⟩ := List.getElem?_eq_some_iff.1 hi
  exact (List.pairwise_iff_getElem.1 hn) j i h1 h2 hji (e1.trans e2.symm)
theorem ints_aside {w w' : World} {ad : Option Addr} {zs : List Int} {T : Nat → Prop} (h : IntsAt w ad zs) (hc : ChP T w w') (hT : ∀ y, ad = some y → ¬ T y.block) : IntsAt w' ad zs := by
  rcases h with h | ⟨b, off, e, h⟩
  · exact .inl h
  · exact .inr ⟨b, off, e, fun i hi => (hc.cell (p := ⟨b, off + i, none⟩) (cell_lt (h i hi)) (hT ⟨b, off, none⟩ e)).trans (h i hi)⟩
theorem z30 : Tryd.zeroCells30 = z5120 := by kernel_rfl
theorem z31 : Tryd.zeroCells31 = z80 := by kernel_rfl
open Go.BigFrame in
set_option maxRecDepth 100000 in
set_option maxHeartbeats 16000000 in
theorem holds_law (a0 : Option Addr) (len0 cap0 : Nat) (w : World) (hT : Mk.Tab w) (_ : len0 ≤ 9223372036854775807) (ha : ActsAt w a0 len0) :
    Calls Tryd.prog 3 #[.slice a0 len0 cap0] w fun e w' => e = .returned (.bool true) ∧ Below w.heap.size w w' := by
  have HAc := Lib.hid ha
  have HT := Lib.hid hT
  have HN := Lib.hid (show Calls Tryd.prog 7 #[.int .i64 4] w _ from dl_new (n := 4) (Ch.refl [] w) hT (by decide) (by decide))
  clear ha hT
  go_enter Tryd.func3, Tryd.ntmps3
  go_wp2_with fail
  with_reducible refine HN.out.mono ?_
  rintro e w1 ⟨a, rfl, h1, hc1⟩
  obtain ⟨w2, hw2⟩ : ∃ W, W = w1.alloc (.cells insZ 29) := ⟨_, rfl⟩
  obtain ⟨w3, hw3⟩ : ∃ W, W = w2.alloc (.cells z5120 30) := ⟨_, rfl⟩
  obtain ⟨w4, hw4⟩ : ∃ W, W = w3.alloc (.cells z80 31) := ⟨_, rfl⟩
  obtain ⟨w5, hw5⟩ : ∃ W, W = w4.alloc (.cells z80 31) := ⟨_, rfl⟩
  have z1 := insZ_zero w1
  have z2 := z5120_zero w2
  have z3 := z80_zero w3
  have z4 := z80_zero w4
  have s2 : w2.heap.size = w1.heap.size + 1 := by rw [hw2]; simp
  have s3 : w3.heap.size = w2.heap.size + 1 := by rw [hw3]; simp
  have s4 : w4.heap.size = w3.heap.size + 1 := by rw [hw4]; simp
  have s5 : w5.heap.size = w4.heap.size + 1 := by rw [hw5]; simp
  have l2 : Ch [] w1 w2 := by rw [hw2]; exact (Ch.refl [] _).alloc _
  have l3 : Ch [] w2 w3 := by rw [hw3]; exact (Ch.refl [] _).alloc _
  have l4 : Ch [] w3 w4 := by rw [hw4]; exact (Ch.refl [] _).alloc _
  have l5 : Ch [] w4 w5 := by rw [hw5]; exact (Ch.refl [] _).alloc _
  have HZ := Lib.hid (show HS w w5 w.heap.size a w5.heap.size w1.heap.size w2.heap.size w3.heap.size w4.heap.size 0 lZ (fun _ _ => 0) (fun _ => 0) (fun _ => 0) from by
    have hI : IB w2 w1.heap.size SS.zero := by rw [hw2]; exact IB.new w1 _
    have cA : ∀ i, i < 5120 → w3.cell? ⟨w2.heap.size, i, none⟩ = some (.int .i64 0) := fun i hi => by rw [hw3]; exact cells_new w2 5120 _ hi
    have cT : ∀ i, i < 80 → w4.cell? ⟨w3.heap.size, i, none⟩ = some (.int .i64 0) := fun i hi => by rw [hw4]; exact cells_new w3 80 _ hi
    have cK : ∀ i, i < 80 → w5.cell? ⟨w4.heap.size, i, none⟩ = some (.int .i64 0) := fun i hi => by rw [hw5]; exact cells_new w4 80 _ hi
    have fA : ∀ j, w3.frozen? ⟨w2.heap.size, j, none⟩ = false := fun j => by rw [hw3]; exact World.frozen?_alloc_new w2 _ _ _
    have fT : ∀ j, w4.frozen? ⟨w3.heap.size, j, none⟩ = false := fun j => by rw [hw4]; exact World.frozen?_alloc_new w3 _ _ _
    have fK : ∀ j, w5.frozen? ⟨w4.heap.size, j, none⟩ = false := fun j => by rw [hw5]; exact World.frozen?_alloc_new w4 _ _ _
    have l45 := l4.trans l5
    refine ⟨⟨?_, hI.ch (l3.trans l45), ⟨h1.al, by omega, Nat.le_refl _⟩, LI.zero, by decide, by decide, fun _ _ => rfl, by decide⟩, ⟨fun n hn r hr => ?_, fun n hn => ?_, fun n hn => cK n hn, fun j => ?_, fun j => ?_, fK⟩, PI.zero, fun c hc => by show 4 * (([] : List Int).length + ([] : List Int).length) + c ≤ 0 + 3; simp; omega, by omega⟩
    · rw [lZ_dm]
      exact (h1.quiet (l2.trans (l3.trans l45))).lift rfl (by omega)
    · exact (l45.cell (p := ⟨w2.heap.size, n * 64 + r, none⟩) (by simp; omega) (by simp)).trans (cA _ (by omega))
    · exact (l5.cell (p := ⟨w3.heap.size, n, none⟩) (by simp; omega) (by simp)).trans (cT n hn)
    · exact (l45.frozen (p := ⟨w2.heap.size, j, none⟩) (by simp; omega) (by simp)).trans (fA j)
    · exact (l5.frozen (p := ⟨w3.heap.size, j, none⟩) (by simp; omega) (by simp)).trans (fT j))
  have HW := Lib.hid (And.intro hw2 (And.intro hw3 (And.intro hw4 hw5)))
  have HSz := Lib.hid (And.intro s2 (And.intro s3 s4))
  clear h1 hc1 HN l2 l3 l4 l5 hw5 s2 s3 s4 s5 hw2 hw3 hw4 z2 z3 z4
  go_wp2_with fail
  rw [z30, z31, ← HW.out.1, ← HW.out.2.1, ← HW.out.2.2.1, ← HW.out.2.2.2, ← HSz.out.1, ← HSz.out.2.1, ← HSz.out.2.2]
  clear HW HSz z1
  generalize w4.heap.size = bK at *
  generalize w3.heap.size = bT at *
  generalize w2.heap.size = bA at *
  generalize w1.heap.size = bI at *
  generalize w5.heap.size = L at *
  generalize w.heap.size = S at *
  go_loopw [9] (fun ix wr => ∃ (k : Nat) (l : LS) (at' : Nat → Nat → Int) (tf kf : Nat → Int), k ≤ 80 ∧ ix = .int .i64 (k : Int) ∧ HS w wr S a L bI bA bT bK k l at' tf kf) (fun ix _ => 80 - (intOf ix).toNat)
  case atStart => exact ⟨0, lZ, _, _, _, by decide, rfl, HZ.out⟩
  case round =>
    obtain ⟨k, l, at', tf, kf, hk, rfl, he⟩ := hrel
    clear HZ
    by_cases hgo : k < len0 ∧ k < 80
    · obtain ⟨hlt, hlt6⟩ := hgo
      have hlt' : (k : Int) < (len0 : Int) := by omega
      have hlt6' : (k : Int) < 80 := by omega
      rcases HAc.out.ch he.b.ch with h0 | ⟨g, off, rfl, hcc⟩
      · exfalso; omega
      · obtain ⟨K, R, C, Id, q0, q1, q2, q3⟩ := hcc k hlt
        obtain ⟨U, hU⟩ : ∃ U, IntKind.u64.wrap K = U := ⟨_, rfl⟩
        obtain ⟨M, hM⟩ : ∃ M, U.tmod 6 = M := ⟨_, rfl⟩
        have HLt := Lib.hid (And.intro hlt hlt6)
        obtain ⟨w3, hw3⟩ : ∃ W, W = wr.alloc (.cells #[.int .i64 K, .int .i64 R, .int .i64 C, .int .i64 Id] 33) := ⟨_, rfl⟩
        have hal : Ch [] wr w3 := by rw [hw3]; exact (Ch.refl [] wr).alloc _
        have HE := Lib.hid (he.quiet hal)
        have HW3 := Lib.hid hw3
        have hs3 : wr.heap.size + 1 = w3.heap.size := by rw [hw3]; simp
        have HS3 := Lib.hid hs3
        clear hcc he hlt hlt6 hal hw3 hs3
        by_cases h0 : M = 0
        · subst h0
          have C1 := Lib.hid (HE.out.b.enter (by omega) R)
          go_wp2_with fail
          rw [← HW3.out]
          with_reducible refine C1.out.mono ?_
          rintro e w5 ⟨⟨v, rfl⟩, hb, hc⟩
          have HF := Lib.hid (HE.out.enter R hb hc)
          obtain ⟨l', hl'⟩ : ∃ l', l' = l.inn R := ⟨_, rfl⟩
          rw [← hl'] at HF
          clear hb hc C1 HE HW3 hl' HS3
          go_wp2_with fail
          have HKk := Lib.hid (show k < 80 by omega)
          go_loopw [13] (fun jx wr => ∃ j : Nat, j ≤ k ∧ jx = .int .i64 (j : Int) ∧ Ch [] w5 wr) (fun jx _ => k - (intOf jx).toNat)
          case atStart => exact ⟨0, by omega, rfl, Ch.refl _ _⟩
          case round =>
            obtain ⟨j, hj, rfl, hch⟩ := hrel
            have HQj := Lib.hid (HF.out.quiet hch)
            have HCh := Lib.hid hch
            clear hch
            by_cases hjk : j < k
            · have hjk' : (j : Int) < (k : Int) := by omega
              have hj8 : j < 80 := by have := HKk.out; omega
              have hj8' : (j : Int) < 80 := by omega
              have ck := HQj.out.m.kt j hj8
              by_cases hp : 0 < kf j
              · have hgt : decide (kf j > 0) = true := decide_eq_true hp
                by_cases hd : kf j ≤ doneV (dmOf l')
                · have CO := Lib.hid (HQj.out.b.over (kf j) (decide_eq_true hd))
                  have CE := Lib.hid (in_ended HQj.out.b.i (at' j))
                  rw [HQj.out.p.ko j hp hd] at CE
                  have HR := Lib.hid (HQj.out.m.range hj8)
                  clear hp hd hj8
                  generalize kf j = kv at *
                  go_wp2_with fail
                  with_reducible refine CO.out.mono ?_
                  rintro e w' ⟨rfl, rfl⟩
                  go_wp2_with (first | ((with_reducible show wpList _ _ _ (Oper.mk _ (Op.load 27 _) _ _ _ _ :: _) _ _); refine wpList_read (by rfl) HR.out (by rfl) (by rfl) ?_) | fail)
                  with_reducible refine CE.out.mono ?_
                  rintro e w6 ⟨rfl, hc6⟩
                  have HC6 := Lib.hid (HCh.out.trans hc6)
                  clear hc6 CE CO
                  go_wp2_with fail
                  go_roundw
                  case rel => exact ⟨j + 1, by omega, by go_num, HC6.out⟩
                  case measure => simp [intOf]; omega
                · have CO := Lib.hid (HQj.out.b.over (kf j) (decide_eq_false hd))
                  clear hp hd hj8
                  generalize kf j = kv at *
                  go_wp2_with fail
                  with_reducible refine CO.out.mono ?_
                  rintro e w' ⟨rfl, rfl⟩
                  clear CO
                  go_wp2_with fail
                  go_roundw
                  case rel => exact ⟨j + 1, by omega, by go_num, HCh.out⟩
                  case measure => simp [intOf]; omega
              · have hgt : decide (kf j > 0) = false := decide_eq_false hp
                clear hp hj8
                generalize kf j = kv at *
                go_wp2_with fail
                go_roundw
                case rel => exact ⟨j + 1, by omega, by go_num, HCh.out⟩
                case measure => simp [intOf]; omega
            · clear hj
              go_wp2_with fail
              go_roundw
              case rel => exact ⟨k + 1, l', at', tf, kf, by have := HKk.out; omega, by go_num, HQj.out⟩
              case measure => simp [intOf]; omega
        by_cases h1 : M = 1
        · subst h1
          have C1 := Lib.hid (HE.out.b.exit (by omega) R)
          clear h0
          go_wp2_with fail
          rw [← HW3.out]
          with_reducible refine C1.out.mono ?_
          rintro e w5 ⟨⟨v, rfl⟩, hb, hc⟩
          have HF := Lib.hid (HE.out.exit R hb hc)
          obtain ⟨l', hl'⟩ : ∃ l', l' = l.out R := ⟨_, rfl⟩
          rw [← hl'] at HF
          clear hb hc C1 HE HW3 hl' HS3
          go_wp2_with fail
          have HKk := Lib.hid (show k < 80 by omega)
          go_loopw [13] (fun jx wr => ∃ j : Nat, j ≤ k ∧ jx = .int .i64 (j : Int) ∧ Ch [] w5 wr) (fun jx _ => k - (intOf jx).toNat)
          case atStart => exact ⟨0, by omega, rfl, Ch.refl _ _⟩
          case round =>
            obtain ⟨j, hj, rfl, hch⟩ := hrel
            have HQj := Lib.hid (HF.out.quiet hch)
            have HCh := Lib.hid hch
            clear hch
            by_cases hjk : j < k
            · have hjk' : (j : Int) < (k : Int) := by omega
              have hj8 : j < 80 := by have := HKk.out; omega
              have hj8' : (j : Int) < 80 := by omega
              have ck := HQj.out.m.kt j hj8
              by_cases hp : 0 < kf j
              · have hgt : decide (kf j > 0) = true := decide_eq_true hp
                by_cases hd : kf j ≤ doneV (dmOf l')
                · have CO := Lib.hid (HQj.out.b.over (kf j) (decide_eq_true hd))
                  have CE := Lib.hid (in_ended HQj.out.b.i (at' j))
                  rw [HQj.out.p.ko j hp hd] at CE
                  have HR := Lib.hid (HQj.out.m.range hj8)
                  clear hp hd hj8
                  generalize kf j = kv at *
                  go_wp2_with fail
                  with_reducible refine CO.out.mono ?_
                  rintro e w' ⟨rfl, rfl⟩
                  go_wp2_with (first | ((with_reducible show wpList _ _ _ (Oper.mk _ (Op.load 27 _) _ _ _ _ :: _) _ _); refine wpList_read (by rfl) HR.out (by rfl) (by rfl) ?_) | fail)
                  with_reducible refine CE.out.mono ?_
                  rintro e w6 ⟨rfl, hc6⟩
                  have HC6 := Lib.hid (HCh.out.trans hc6)
                  clear hc6 CE CO
                  go_wp2_with fail
                  go_roundw
                  case rel => exact ⟨j + 1, by omega, by go_num, HC6.out⟩
                  case measure => simp [intOf]; omega
                · have CO := Lib.hid (HQj.out.b.over (kf j) (decide_eq_false hd))
                  clear hp hd hj8
                  generalize kf j = kv at *
                  go_wp2_with fail
                  with_reducible refine CO.out.mono ?_
                  rintro e w' ⟨rfl, rfl⟩
                  clear CO
                  go_wp2_with fail
                  go_roundw
                  case rel => exact ⟨j + 1, by omega, by go_num, HCh.out⟩
                  case measure => simp [intOf]; omega
              · have hgt : decide (kf j > 0) = false := decide_eq_false hp
                clear hp hj8
                generalize kf j = kv at *
                go_wp2_with fail
                go_roundw
                case rel => exact ⟨j + 1, by omega, by go_num, HCh.out⟩
                case measure => simp [intOf]; omega
            · clear hj
              go_wp2_with fail
              go_roundw
              case rel => exact ⟨k + 1, l', at', tf, kf, by have := HKk.out; omega, by go_num, HQj.out⟩
              case measure => simp [intOf]; omega
        by_cases h2 : M = 2
        · subst h2
          obtain ⟨c, hcd⟩ : ∃ c, k % 4 = c := ⟨_, rfl⟩
          have hc4 : c < 4 := by omega
          have hcu : Int.tmod (k : Int) 4 = (c : Int) := by rw [Int.tmod_eq_emod_of_nonneg (by omega)]; omega
          have hk8 : k < 80 := by omega
          have ho := HE.out.o
          obtain ⟨W4, hW4⟩ : ∃ W, W = w3.setCells bA (k * 64) (rowL l.x.s) := ⟨_, rfl⟩
          obtain ⟨W5, hW5⟩ : ∃ W, W = W4.setCell ⟨bT, k, none⟩ (.int .i64 1) := ⟨_, rfl⟩
          have hm4 : HM W4 bA bT bK (putA at' k l.x.s) tf kf := by rw [hW4]; exact HE.out.m.putAt (by omega) hk8 l.x.s
          have hm5 : HM W5 bA bT bK (putA at' k l.x.s) (putF tf k 1) kf := by rw [hW5]; exact hm4.putT (by omega) hk8 1
          have hc5 : ChP (fun j => j = bA ∨ j = bT ∨ j = bK) w3 W5 := by
            rw [hW5, hW4]
            exact ((chP_cells w3 bA (rowL l.x.s) (k * 64)).mono (fun j e => .inl e)).trans ((ChP.refl (fun j => j = bA ∨ j = bT ∨ j = bK) _).setCell (p := ⟨bT, k, none⟩) (.inl (.inr (.inl rfl))) _)
          have hb5 := HE.out.wrote hc5
          have C1 := Lib.hid (hb5.call (by omega) hc4 (k : Int) (by have := HE.out.len c hc4; omega) 3)
          have c4 := hm4.td k hk8
          have f4 := hm4.ft k
          have hr4 := HE.out.b.i.range
          have ht4 := HE.out.m.there hk8
          have hss : w3.heap.size = W5.heap.size := by rw [hW5, hW4]; simp [World.setCell, size_cells]
          have HSs := Lib.hid (HS3.out.trans hss)
          have HF0 := Lib.hid (fun (w' : World) (hb : EB w w' S a L bI (k + 1) (l.add c (k : Int))) (hc : ChP (GI S a l.sc bI) W5 w') => show HS w w' S a L bI bA bT bK (k + 1) (l.add c (k : Int)) (putA at' k l.x.s) (putF tf k 1) kf from
            ⟨hb, hm5.chP hc (hb5.aside (by have := hb5.o.1; omega) (by omega) (by omega)) (hb5.aside (by have := hb5.o.1; omega) (by omega) (by omega)) (hb5.aside (by have := hb5.o.1; omega) (by omega) (by omega)), HE.out.p.add HE.out.gs hc4, add_lenH HE.out.len rfl hcd (k : Int), HE.out.o⟩)
          have HW5 := Lib.hid (show W5 = ((wr.alloc (.cells #[.int .i64 K, .int .i64 R, .int .i64 C, .int .i64 Id] 33)).setCells bA (k * 64) (rowL l.x.s)).setCell ⟨bT, k, none⟩ (.int .i64 1) from by rw [hW5, hW4, HW3.out])
          rw [hW4, HW3.out] at c4 f4
          rw [HW3.out] at hr4 ht4
          have HR4 := Lib.hid hr4
          have HT4 := Lib.hid ht4
          clear h0 h1 hcd hc4 hk8 ho hW4 hW5 hm4 hm5 hc5 hb5 hss hr4 ht4
          go_wp2_with (first | ((with_reducible show wpList _ _ _ (Oper.mk _ (Op.load 27 _) _ _ _ _ :: _) _ _); refine wpList_read (by rfl) HR4.out (by rfl) (by rfl) ?_) | ((with_reducible show wpList _ _ _ (Oper.mk _ (Op.store 27 _ _) _ _ _ _ :: _) _ _); refine wpList_write (by rfl) HT4.out l.x.s (by rfl) (by rfl) (by rfl) ?_) | fail)
          rw [← HW5.out, size_cells, World.size_alloc, HSs.out]
          with_reducible refine C1.out.mono ?_
          rintro e w5 ⟨rfl, hb, hc⟩
          have HF := Lib.hid (HF0.out w5 hb hc)
          obtain ⟨l', hl'⟩ : ∃ l', l' = l.add c (k : Int) := ⟨_, rfl⟩
          obtain ⟨aF, haF⟩ : ∃ A, A = putA at' k l.x.s := ⟨_, rfl⟩
          obtain ⟨tF, htF⟩ : ∃ t, t = putF tf k 1 := ⟨_, rfl⟩
          rw [← hl', ← haF, ← htF] at HF
          clear hb hc C1 HE HW3 hl' HS3 HF0 HW5 HSs HR4 HT4 haF htF c4 f4
          go_wp2_with fail
          have HKk := Lib.hid (show k < 80 by omega)
          go_loopw [13] (fun jx wr => ∃ j : Nat, j ≤ k ∧ jx = .int .i64 (j : Int) ∧ Ch [] w5 wr) (fun jx _ => k - (intOf jx).toNat)
          case atStart => exact ⟨0, by omega, rfl, Ch.refl _ _⟩
          case round =>
            obtain ⟨j, hj, rfl, hch⟩ := hrel
            have HQj := Lib.hid (HF.out.quiet hch)
            have HCh := Lib.hid hch
            clear hch
            by_cases hjk : j < k
            · have hjk' : (j : Int) < (k : Int) := by omega
              have hj8 : j < 80 := by have := HKk.out; omega
              have hj8' : (j : Int) < 80 := by omega
              have ck := HQj.out.m.kt j hj8
              by_cases hp : 0 < kf j
              · have hgt : decide (kf j > 0) = true := decide_eq_true hp
                by_cases hd : kf j ≤ doneV (dmOf l')
                · have CO := Lib.hid (HQj.out.b.over (kf j) (decide_eq_true hd))
                  have CE := Lib.hid (in_ended HQj.out.b.i (aF j))
                  rw [HQj.out.p.ko j hp hd] at CE
                  have HR := Lib.hid (HQj.out.m.range hj8)
                  clear hp hd hj8
                  generalize kf j = kv at *
                  go_wp2_with fail
                  with_reducible refine CO.out.mono ?_
                  rintro e w' ⟨rfl, rfl⟩
                  go_wp2_with (first | ((with_reducible show wpList _ _ _ (Oper.mk _ (Op.load 27 _) _ _ _ _ :: _) _ _); refine wpList_read (by rfl) HR.out (by rfl) (by rfl) ?_) | fail)
                  with_reducible refine CE.out.mono ?_
                  rintro e w6 ⟨rfl, hc6⟩
                  have HC6 := Lib.hid (HCh.out.trans hc6)
                  clear hc6 CE CO
                  go_wp2_with fail
                  go_roundw
                  case rel => exact ⟨j + 1, by omega, by go_num, HC6.out⟩
                  case measure => simp [intOf]; omega
                · have CO := Lib.hid (HQj.out.b.over (kf j) (decide_eq_false hd))
                  clear hp hd hj8
                  generalize kf j = kv at *
                  go_wp2_with fail
                  with_reducible refine CO.out.mono ?_
                  rintro e w' ⟨rfl, rfl⟩
                  clear CO
                  go_wp2_with fail
                  go_roundw
                  case rel => exact ⟨j + 1, by omega, by go_num, HCh.out⟩
                  case measure => simp [intOf]; omega
              · have hgt : decide (kf j > 0) = false := decide_eq_false hp
                clear hp hj8
                generalize kf j = kv at *
                go_wp2_with fail
                go_roundw
                case rel => exact ⟨j + 1, by omega, by go_num, HCh.out⟩
                case measure => simp [intOf]; omega
            · clear hj
              go_wp2_with fail
              go_roundw
              case rel => exact ⟨k + 1, l', aF, tF, kf, by have := HKk.out; omega, by go_num, HQj.out⟩
              case measure => simp [intOf]; omega
        by_cases h3 : M = 3
        · subst h3
          have hk8 : k < 80 := by omega
          have ho := HE.out.o
          obtain ⟨W4, hW4⟩ : ∃ W, W = w3.setCells bA (k * 64) (rowL l.x.s) := ⟨_, rfl⟩
          have hm4 : HM W4 bA bT bK (putA at' k l.x.s) tf kf := by rw [hW4]; exact HE.out.m.putAt (by omega) hk8 l.x.s
          have hc4 : ChP (fun j => j = bA ∨ j = bT ∨ j = bK) w3 W4 := by
            rw [hW4]
            exact (chP_cells w3 bA (rowL l.x.s) (k * 64)).mono (fun j e => .inl e)
          have hb4 := HE.out.wrote hc4
          obtain ⟨v, hv⟩ : ∃ v, l.gen + 1 = v := ⟨_, rfl⟩
          have C1 := Lib.hid (hb4.ticket (by omega) hv)
          have hr4 := HE.out.b.i.range
          have ht4 := HE.out.m.there hk8
          have HM0 := Lib.hid (fun (w' : World) (hc : ChP (GI S a l.sc bI) W4 w') => hm4.chP hc (hb4.aside (by have := hb4.o.1; omega) (by omega) (by omega)) (hb4.aside (by have := hb4.o.1; omega) (by omega) (by omega)) (hb4.aside (by have := hb4.o.1; omega) (by omega) (by omega)))
          have HP := Lib.hid (HE.out.p.tik HE.out.b.li HE.out.gs)
          have HO := Lib.hid (And.intro ho (And.intro HE.out.b.o.1 hk8))
          have HLn := Lib.hid (show ∀ c, c < 4 → 4 * ((l.tik.A c).length + (l.tik.B c).length) + c ≤ k + 1 + 3 from fun c hc => by have := HE.out.len c hc; show 4 * ((l.A c).length + (l.B c).length) + c ≤ k + 1 + 3; omega)
          have HV := Lib.hid hv
          have HW4 := Lib.hid (show W4 = (wr.alloc (.cells #[.int .i64 K, .int .i64 R, .int .i64 C, .int .i64 Id] 33)).setCells bA (k * 64) (rowL l.x.s) from by rw [hW4, HW3.out])
          rw [HW3.out] at hr4 ht4
          have HR4 := Lib.hid hr4
          have HT4 := Lib.hid ht4
          have hk8' : (k : Int) < 80 := by omega
          clear h0 h1 h2 hk8 ho hW4 hm4 hc4 hb4 hr4 ht4 hv
          go_wp2_with (first | ((with_reducible show wpList _ _ _ (Oper.mk _ (Op.load 27 _) _ _ _ _ :: _) _ _); refine wpList_read (by rfl) HR4.out (by rfl) (by rfl) ?_) | ((with_reducible show wpList _ _ _ (Oper.mk _ (Op.store 27 _ _) _ _ _ _ :: _) _ _); refine wpList_write (by rfl) HT4.out l.x.s (by rfl) (by rfl) (by rfl) ?_) | fail)
          rw [← HW4.out]
          with_reducible refine C1.out.mono ?_
          rintro e w6 ⟨rfl, hb, hc⟩
          have hm6 := HM0.out w6 hc
          obtain ⟨W7, hW7⟩ : ∃ W, W = w6.setCell ⟨bK, k, none⟩ (.int .i64 v) := ⟨_, rfl⟩
          have hm7 : HM W7 bA bT bK (putA at' k l.x.s) tf (putF kf k v) := by rw [hW7]; exact hm6.putK (by have := HO.out; omega) HO.out.2.2 v
          have hc7 : ChP (fun j => j = bK) w6 W7 := by rw [hW7]; exact (ChP.refl (fun j => j = bK) w6).setCell (p := ⟨bK, k, none⟩) (.inl rfl) _
          have hb7 := hb.same hc7 (fun j e => by have := HO.out; omega)
          have HS7 := Lib.hid (show HS w W7 S a L bI bA bT bK (k + 1) l.tik (putA at' k l.x.s) tf (putF kf k v) from ⟨hb7, hm7, by rw [← HV.out]; exact HP.out.1, HLn.out, HO.out.1⟩)
          have ck := hm6.kt k HO.out.2.2
          have fk := hm6.fk k
          have HW7 := Lib.hid hW7
          have HWL := Lib.hid (And.intro hm6.lt.2.2 hm7.lt.2.2)
          clear hb hc hm6 hW7 hm7 hc7 hb7 C1 HM0 HE HW3 HS3 HR4 HT4 HW4
          go_wp2_with fail
          rw [← HW7.out]
          clear ck fk HW7
          obtain ⟨G, f', hf1, hf2⟩ := worlds_of W7
          have hne : Nonempty G := ⟨(hf2 W7 (Ch.refl _ _)).choose⟩
          have ck : ∀ g : G, (f' g).cell? ⟨bK, k, none⟩ = some (.int .i64 v) := fun g => by
            have := (HS7.out.quiet (hf1 g)).m.kt k HO.out.2.2
            rwa [putF_same] at this
          obtain ⟨dv, hdv⟩ : ∃ dv, doneV (dmOf l.tik) = dv := ⟨_, rfl⟩
          have HDn := Lib.hid (fun g : G => (HS7.out.quiet (hf1 g)).b.d.done (HS7.out.quiet (hf1 g)).b.gb' hdv)
          have hle : ¬ v ≤ dv := by
            have h8 := HP.out.2
            have h9 := HV.out
            have : doneV (dmOf l.tik) = dnH l.tik := rfl
            omega
          have HX1 := Lib.hid hf1
          have HX2 := Lib.hid hf2
          have HQq := Lib.hid (Ch.refl [] W7)
          clear hf1 hf2 hdv
          refine wp_region_worlds f' (by kernel_rfl) (by kernel_rfl) (HX2.out _ HQq.out.drew) ?_
          repeat (go_big_quiet_step (first
            | (with_reducible refine (HDn.out _).mono ?_; rintro r w' ⟨rfl, rfl⟩; exact ⟨rfl, _, rfl⟩)))
          refine wpQuiet_nil ?_
          rintro _ ⟨gz, rfl⟩
          have HF := Lib.hid (HS7.out.quiet (HX1.out gz))
          generalize f' gz = w5 at *
          clear ck HDn HX1 HX2 HQq hne HS7 hle
          obtain ⟨l', hl'⟩ : ∃ l', l' = l.tik := ⟨_, rfl⟩
          obtain ⟨aF, haF⟩ : ∃ A, A = putA at' k l.x.s := ⟨_, rfl⟩
          obtain ⟨kF, hkF⟩ : ∃ t, t = putF kf k v := ⟨_, rfl⟩
          rw [← hl', ← haF, ← hkF] at HF
          clear hl' haF hkF HP HO HLn HV HWL
          go_wp2_with fail
          have HKk := Lib.hid (show k < 80 by omega)
          go_loopw [13] (fun jx wr => ∃ j : Nat, j ≤ k ∧ jx = .int .i64 (j : Int) ∧ Ch [] w5 wr) (fun jx _ => k - (intOf jx).toNat)
          case atStart => exact ⟨0, by omega, rfl, Ch.refl _ _⟩
          case round =>
            obtain ⟨j, hj, rfl, hch⟩ := hrel
            have HQj := Lib.hid (HF.out.quiet hch)
            have HCh := Lib.hid hch
            clear hch
            by_cases hjk : j < k
            · have hjk' : (j : Int) < (k : Int) := by omega
              have hj8 : j < 80 := by have := HKk.out; omega
              have hj8' : (j : Int) < 80 := by omega
              have ck := HQj.out.m.kt j hj8
              by_cases hp : 0 < kF j
              · have hgt : decide (kF j > 0) = true := decide_eq_true hp
                by_cases hd : kF j ≤ doneV (dmOf l')
                · have CO := Lib.hid (HQj.out.b.over (kF j) (decide_eq_true hd))
                  have CE := Lib.hid (in_ended HQj.out.b.i (aF j))
                  rw [HQj.out.p.ko j hp hd] at CE
                  have HR := Lib.hid (HQj.out.m.range hj8)
                  clear hp hd hj8
                  generalize kF j = kv at *
                  go_wp2_with fail
                  with_reducible refine CO.out.mono ?_
                  rintro e w' ⟨rfl, rfl⟩
                  go_wp2_with (first | ((with_reducible show wpList _ _ _ (Oper.mk _ (Op.load 27 _) _ _ _ _ :: _) _ _); refine wpList_read (by rfl) HR.out (by rfl) (by rfl) ?_) | fail)
                  with_reducible refine CE.out.mono ?_
                  rintro e w6 ⟨rfl, hc6⟩
                  have HC6 := Lib.hid (HCh.out.trans hc6)
                  clear hc6 CE CO
                  go_wp2_with fail
                  go_roundw
                  case rel => exact ⟨j + 1, by omega, by go_num, HC6.out⟩
                  case measure => simp [intOf]; omega
                · have CO := Lib.hid (HQj.out.b.over (kF j) (decide_eq_false hd))
                  clear hp hd hj8
                  generalize kF j = kv at *
                  go_wp2_with fail
                  with_reducible refine CO.out.mono ?_
                  rintro e w' ⟨rfl, rfl⟩
                  clear CO
                  go_wp2_with fail
                  go_roundw
                  case rel => exact ⟨j + 1, by omega, by go_num, HCh.out⟩
                  case measure => simp [intOf]; omega
              · have hgt : decide (kF j > 0) = false := decide_eq_false hp
                clear hp hj8
                generalize kF j = kv at *
                go_wp2_with fail
                go_roundw
                case rel => exact ⟨j + 1, by omega, by go_num, HCh.out⟩
                case measure => simp [intOf]; omega
            · clear hj
              go_wp2_with fail
              go_roundw
              case rel => exact ⟨k + 1, l', aF, tf, kF, by have := HKk.out; omega, by go_num, HQj.out⟩
              case measure => simp [intOf]; omega
        · have b0 : (M == 0) = false := by simpa using h0
          have b1 : (M == 1) = false := by simpa using h1
          have b2 : (M == 2) = false := by simpa using h2
          have b3 : (M == 3) = false := by simpa using h3
          obtain ⟨O, hO⟩ : ∃ O, outL 4 l = O := ⟨_, rfl⟩
          have C1 := Lib.hid (HE.out.b.poll (by omega) hO)
          have hol := HE.out.b.out_len
          have hnd := HE.out.p.nodup
          have htl := HE.out.p.told HE.out.gs
          have hpl := fun c => HE.out.p.poll HE.out.b.li HE.out.gs c
          rw [hO] at hol hnd htl
          simp only [hO] at hpl
          have HNd := Lib.hid hnd
          have HTl := Lib.hid htl
          have HPl := Lib.hid hpl
          have HMm := Lib.hid (fun (w' : World) (hc : ChP (GI S a l.sc bI) w3 w') => HE.out.mem hc)
          have HOo := Lib.hid (And.intro HE.out.o (And.intro HE.out.b.o.1 HE.out.b.o.2.2))
          have HLn := Lib.hid (fun (c : Nat) => show ∀ i, i < 4 → 4 * (((pollLS c 4 l).A i).length + ((pollLS c 4 l).B i).length) + i ≤ k + 1 + 3 from fun i hi => by have := poll_len c 4 HE.out.b.li i; have := HE.out.len i hi; omega)
          have HLx := Lib.hid (fun (c : Nat) => (poll_x c 4 l).1)
          clear h0 h1 h2 h3 hO hnd htl hpl
          go_wp2_with fail
          rw [← HW3.out]
          with_reducible refine C1.out.mono ?_
          rintro e w4 ⟨ad, cap, rfl, hO4, hlo4, c, -, hb, hc⟩
          have HM4 := Lib.hid (HMm.out w4 hc)
          have HB4 := Lib.hid hb
          have HO4 := Lib.hid hO4
          have HAd := Lib.hid (fun (y : Addr) (e : ad = some y) => show y.block ≠ bT from by have := hlo4 y e; have := HOo.out; omega)
          obtain ⟨l', hl'⟩ : ∃ l', l' = pollLS c 4 l := ⟨_, rfl⟩
          have HPl := Lib.hid (HPl.out c)
          have HLn := Lib.hid (HLn.out c)
          have HLx := Lib.hid (HLx.out c)
          rw [← hl'] at HB4 HPl HLn HLx
          obtain ⟨q, hq⟩ : ∃ q, O.length = q := ⟨_, rfl⟩
          rw [hq] at hol ⊢
          have HQ := Lib.hid hq
          clear hb hc hO4 hlo4 C1 HE HW3 HS3 HMm hl' hq
          go_wp2_with fail
          go_loopw [12] (fun ix wr => ∃ i : Nat, i ≤ q ∧ ix = .int .i64 (i : Int) ∧ EB w wr S a L bI (k + 1) l' ∧ HM wr bA bT bK at' (toldF tf (O.take i)) kf ∧ IntsAt wr ad O) (fun ix _ => q - (intOf ix).toNat)
          case atStart => exact ⟨0, by omega, rfl, HB4.out, by rw [show toldF tf (O.take 0) = tf from by funext n; simp [toldF]]; exact HM4.out, HO4.out⟩
          case round =>
            clear HB4 HM4 HO4
            obtain ⟨i, hi, rfl, hb, hm, hoi⟩ := hrel
            by_cases hiq : i < q
            · have hiq' : (i : Int) < (q : Int) := by omega
              rcases hoi with h0 | ⟨g2, off2, rfl, hcc⟩
              · exfalso; have := HQ.out; rw [h0] at this; simp at this; omega
              · have hlt : i < O.length := by rw [HQ.out]; exact hiq
                have hzi : O[i]? = some (O[i]) := List.getElem?_eq_getElem hlt
                obtain ⟨n, hzn, hnk, htn, hen⟩ := HTl.out O[i] (List.getElem_mem hlt)
                have hz := hcc i hlt
                rw [hzi, Option.getD_some, hzn] at hz
                rw [hzn] at hzi
                have hn8 : n < 80 := by omega
                have hn8' : (n : Int) < 80 := by omega
                have hnk' : ¬ (80 : Int) ≤ (n : Int) := by omega
                have htv : toldF tf (O.take i) n = 1 := by
                  unfold toldF
                  rw [if_neg (not_before HNd.out hzi)]
                  exact htn
                have ct := hm.td n hn8
                rw [htv] at ct
                have HR := Lib.hid (hm.range hn8)
                have CE := Lib.hid (in_ended hb.i (at' n))
                rw [HLx.out, hen] at CE
                have HB := Lib.hid hb
                have HMi := Lib.hid hm
                have HStp := Lib.hid (told_take (tf := tf) hzi)
                have HOi := Lib.hid (show IntsAt wr (some ⟨g2, off2, none⟩) O from .inr ⟨g2, off2, rfl, hcc⟩)
                have HN8 := Lib.hid hn8
                have HNb := Lib.hid (HAd.out _ rfl)
                clear hcc hzi hzn hnk htn hen htv hb hm hlt hn8
                go_wp2_with (first | ((with_reducible show wpList _ _ _ (Oper.mk _ (Op.load 27 _) _ _ _ _ :: _) _ _); refine wpList_read (by rfl) HR.out (by rfl) (by rfl) ?_) | fail)
                with_reducible refine CE.out.mono ?_
                rintro e w6 ⟨rfl, hc6⟩
                have hz6 := (hc6.cell (p := ⟨g2, off2 + i, none⟩) (cell_lt hz) (by simp)).trans hz
                have hm6 := HMi.out.ch hc6
                have ct6 := hm6.td n HN8.out
                have ft6 := hm6.ft n
                have hP : ChP (fun j => j = bT) w6 (w6.setCell ⟨bT, n, none⟩ (.int .i64 2)) := (ChP.refl (fun j => j = bT) w6).setCell (p := ⟨bT, n, none⟩) (.inl rfl) _
                have HMn := Lib.hid (show HM (w6.setCell ⟨bT, n, none⟩ (.int .i64 2)) bA bT bK at' (toldF tf (O.take (i + 1))) kf from by rw [HStp.out]; exact hm6.putT (by have := HOo.out; omega) HN8.out 2)
                have HBn := Lib.hid ((HB.out.quiet hc6).same hP (fun j e => by have := HOo.out; have := HB.out.o; omega))
                have HIn := Lib.hid (ints_aside (HOi.out.ch hc6) hP (fun y e => by cases e; exact HNb.out))
                clear hc6 hm6 hP hz ct CE
                go_wp2_with fail
                go_roundw
                case rel => exact ⟨i + 1, by omega, by go_num, HBn.out, HMn.out, HIn.out⟩
                case measure => simp [intOf]; omega
            · have e : O.take i = O := List.take_of_length_le (by rw [HQ.out]; omega)
              rw [e] at hm
              have HF := Lib.hid (show HS w wr S a L bI bA bT bK (k + 1) l' at' (toldF tf O) kf from ⟨hb, hm, HPl.out, HLn.out, HOo.out.1⟩)
              obtain ⟨tF, htF⟩ : ∃ t, t = toldF tf O := ⟨_, rfl⟩
              rw [← htF] at HF
              clear hb hm hoi HPl HLn HLx HTl HNd HAd HQ e htF hi
              generalize wr = w5 at *
              go_wp2_with fail
              have HKk := Lib.hid (show k < 80 by omega)
              go_loopw [13] (fun jx wr => ∃ j : Nat, j ≤ k ∧ jx = .int .i64 (j : Int) ∧ Ch [] w5 wr) (fun jx _ => k - (intOf jx).toNat)
              case atStart => exact ⟨0, by omega, rfl, Ch.refl _ _⟩
              case round =>
                obtain ⟨j, hj, rfl, hch⟩ := hrel
                have HQj := Lib.hid (HF.out.quiet hch)
                have HCh := Lib.hid hch
                clear hch
                by_cases hjk : j < k
                · have hjk' : (j : Int) < (k : Int) := by omega
                  have hj8 : j < 80 := by have := HKk.out; omega
                  have hj8' : (j : Int) < 80 := by omega
                  have ck := HQj.out.m.kt j hj8
                  by_cases hp : 0 < kf j
                  · have hgt : decide (kf j > 0) = true := decide_eq_true hp
                    by_cases hd : kf j ≤ doneV (dmOf l')
                    · have CO := Lib.hid (HQj.out.b.over (kf j) (decide_eq_true hd))
                      have CE := Lib.hid (in_ended HQj.out.b.i (at' j))
                      rw [HQj.out.p.ko j hp hd] at CE
                      have HR := Lib.hid (HQj.out.m.range hj8)
                      clear hp hd hj8
                      generalize kf j = kv at *
                      go_wp2_with fail
                      with_reducible refine CO.out.mono ?_
                      rintro e w' ⟨rfl, rfl⟩
                      go_wp2_with (first | ((with_reducible show wpList _ _ _ (Oper.mk _ (Op.load 27 _) _ _ _ _ :: _) _ _); refine wpList_read (by rfl) HR.out (by rfl) (by rfl) ?_) | fail)
                      with_reducible refine CE.out.mono ?_
                      rintro e w6 ⟨rfl, hc6⟩
                      have HC6 := Lib.hid (HCh.out.trans hc6)
                      clear hc6 CE CO
                      go_wp2_with fail
                      go_roundw
                      case rel => exact ⟨j + 1, by omega, by go_num, HC6.out⟩
                      case measure => simp [intOf]; omega
                    · have CO := Lib.hid (HQj.out.b.over (kf j) (decide_eq_false hd))
                      clear hp hd hj8
                      generalize kf j = kv at *
                      go_wp2_with fail
                      with_reducible refine CO.out.mono ?_
                      rintro e w' ⟨rfl, rfl⟩
                      clear CO
                      go_wp2_with fail
                      go_roundw
                      case rel => exact ⟨j + 1, by omega, by go_num, HCh.out⟩
                      case measure => simp [intOf]; omega
                  · have hgt : decide (kf j > 0) = false := decide_eq_false hp
                    clear hp hj8
                    generalize kf j = kv at *
                    go_wp2_with fail
                    go_roundw
                    case rel => exact ⟨j + 1, by omega, by go_num, HCh.out⟩
                    case measure => simp [intOf]; omega
                · clear hj
                  go_wp2_with fail
                  go_roundw
                  case rel => exact ⟨k + 1, l', at', tF, kf, by have := HKk.out; omega, by go_num, HQj.out⟩
                  case measure => simp [intOf]; omega
    · have hcond : ((k : Int) < (len0 : Int) ∧ ¬ (k : Int) < 80) ∨ ¬ (k : Int) < (len0 : Int) := by
        by_cases hkn : (k : Int) < (len0 : Int)
        · exact .inl ⟨hkn, by omega⟩
        · exact .inr hkn
      have C1 := Lib.hid (known_any wr (tab_ch HT.out he.b.ch (by simp)))
      have HC := Lib.hid he.b.ch
      clear hgo hk he
      rcases hcond with ⟨hc1, hc2⟩ | hc1
      all_goals
        go_wp2_with fail
        with_reducible refine C1.out.mono ?_
        rintro e w6 ⟨rfl, hc6⟩
        have HC6 := Lib.hid (HC.out.trans hc6)
        clear hc6 C1
        go_wp2_with fail
        go_ret
        exact ⟨rfl, HC6.out.below _ (by simp) (Nat.le_refl _)⟩
end Go.Proofs.YtjoaigadlpndcaaDoor

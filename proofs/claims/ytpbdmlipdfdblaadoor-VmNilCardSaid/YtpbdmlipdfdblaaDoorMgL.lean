/-
  Several texts in one: Go. · Give, End. (Written by gen/vm19f.py.) · A copy of instructions; New. (Written by gen/vm19g.py.) · The chapter's examples. (Written by gen/vm19k.py.)
-/
import Derived.WalkMore
import Derived.Test.YtpbdmlipdfdblaaDoorMgK
import Derived.Test.YtpbdmlipdfdblaaDoorMgE
import Derived.Lib.SliceRun
namespace Go.Proofs.YtpbdmlipdfdblaaDoor
open Go.RowKit Go.BigFrame

attribute [local go_sem] Oper.semAt_some

theorem there_trap (w : World) (T : TR) (t : TypeId) : (w.alloc (.cells (tl T).toArray t)).there w.heap.size 0 34 := there_new w (tl T).toArray t

theorem World.there_trap2 {w w' : World} {S : List Nat} {B : Nat} (h : w.there B 0 34) (hc : Ch S w w') (hB : B ∉ S) : w'.there B 0 34 := fun j hj => by
  obtain ⟨h1, h2⟩ := h j hj
  have hl : B < w.heap.size := by
    obtain ⟨v, hv⟩ := Option.isSome_iff_exists.1 h1
    exact cell_lt hv
  rw [hc.cell (p := ⟨B, 0 + j, none⟩) hl hB, hc.frozen (p := ⟨B, 0 + j, none⟩) hl hB]
  exact ⟨h1, h2⟩

section
variable {ops : Array Oper} {rest : List Oper} {op : Oper} {a : Act} {w : World} {Q : Exit → Act → World → Prop}
/-- A trap's cells are read, are written, by a name. -/
theorem wpList_readA {x : Operand} (ho : op.op = .load 44 x) {b o : Nat} {A : List Value} (hl : A.length = 34) (hT : w.rangeAt b o A) (hw : Region.wanted op (yielded ops a.tmps) = true) (hx : a.eval x = .pointer (some ⟨b, o, none⟩))
    (h : wpList Tryd.prog ops Q rest (a.put op.dst (.agg A.toArray)) w) : wpList Tryd.prog ops Q (op :: rest) a w :=
  wpList_want hw fun _ hK => wp_load_mid 44 x ho b o hx A _ hT Tryd.underlying44 rfl (by rw [hl]; kernel_rfl) (hK _ _ h)
theorem wpList_writeA {x y : Operand} (ho : op.op = .store 44 x y) {b o : Nat} (ht : w.there b o 34) {A : List Value} (hl : A.length = 34) (h1 : ∀ v ∈ A, v.oneCell' = true) (hw : Region.wanted op (yielded ops a.tmps) = true) (hx : a.eval x = .pointer (some ⟨b, o, none⟩)) (hy : a.eval y = .agg A.toArray)
    (h : wpList Tryd.prog ops Q rest (a.put op.dst undef) (w.setCells b o A)) : wpList Tryd.prog ops Q (op :: rest) a w :=
  wpList_want hw fun _ hK => wp_store_mid 44 x y ho b o A.toArray hx hy (by rw [List.size_toArray, hl]; exact ht) (by rw [List.size_toArray, hl]; kernel_rfl) (all_oneCell_toArray h1) (hK _ _ (by simpa using h))
end
theorem load_A {w : World} {b o : Nat} {A : List Value} (hl : A.length = 34) (h : w.rangeAt b o A) : (loadVar 44 ⟨b, o, none⟩).run Tryd.prog w = .ok (.agg A.toArray) w :=
  run_loadVar_mid w b o 44 A _ h Tryd.underlying44 rfl (by rw [hl]; kernel_rfl)

theorem Ch.freshS {S T : List Nat} {a w w' : World} (h : Ch S a w) (hc : Ch T w w') (hT : ∀ k ∈ T, a.heap.size ≤ k) : Ch S a w' :=
  ⟨hc.os.trans h.os, hc.tape.trans h.tape, hc.output.trans h.output, Nat.le_trans h.size hc.size, fun k hk hn => (hc.block k (Nat.lt_of_lt_of_le hk h.size) (fun hm => by have := hT k hm; omega)).trans (h.block k hk hn)⟩

section
variable {w : World} {b c : Nat} {L : List I5} {s : RNS}
set_option maxRecDepth 10000 in
set_option maxHeartbeats 8000000 in
theorem go_any (h : RB w b c L s) (hR : RP L) (hG : GS L s) {n : Int} (hn : n ≤ 9223372036854775807) :
    Calls Tryd.prog 12 #[.pointer (some ⟨b, 0, none⟩), .int .i64 n] w fun r w' => r = .returned (.agg (tl (goS L n.toNat s).t).toArray) ∧ RB w' b c L (goS L n.toNat s) ∧ Ch [b] w w' := by
  obtain ⟨W, hW⟩ : ∃ W, w.alloc (.cells (tl (T0 0)).toArray 44) = W := ⟨_, rfl⟩
  have hc : Ch [] w W := by rw [← hW]; exact (Ch.refl [] w).alloc _
  have hth : W.there w.heap.size 0 34 := by rw [← hW]; exact there_trap w (T0 0) 44
  have HB := Lib.hid (h.quiet hc)
  have HC := Lib.hid hc
  have HTh := Lib.hid hth
  have HBl := Lib.hid h.lt
  have HCl := Lib.hid (show c < w.heap.size from cell_lt (h.i 0 hR.pos).c0)
  have HW := Lib.hid hW
  have HR := Lib.hid hR
  have HGS := Lib.hid hG
  obtain ⟨N, hN⟩ : ∃ N, n.toNat = N := ⟨_, rfl⟩
  rw [hN]
  have HN := Lib.hid (And.intro hN hn)
  have HEnd := Lib.hid (show ∀ j, j ≤ N → (goS L j s).t.k ≠ 0 ∨ j = N → goS L j s = goS L N s from fun j hj hk => by
    rcases hk with hk | rfl
    · obtain ⟨d, rfl⟩ : ∃ d, N = j + d := ⟨N - j, by omega⟩
      rw [goS_add, goS_stop hk]
    · rfl)
  clear h hR hG hc hth hW hN hn
  go_enter Tryd.func12, Tryd.ntmps12
  go_wp2_with (first
    | ((with_reducible show wpList _ _ _ (Oper.mk _ (Op.alloc 44) _ _ _ _ :: _) _ _); refine wpList_allocZ zT rfl (by rfl) ?_; rw [HW.out])
    | fail)
  go_step3
  go_wp2_with fail
  go_step3
  go_wp2_with fail
  go_loopw [9] (fun i wr => ∃ j : Nat, i = .int .i64 (j : Int) ∧ j ≤ N ∧ RB wr b c L (goS L j s) ∧ Ch [b] W wr) (fun i _ => N - (intOf i).toNat)
  case atStart => exact ⟨0, rfl, Nat.zero_le _, HB.out, Ch.refl _ _⟩
  case round =>
    obtain ⟨j, rfl, hj, hb, hcj⟩ := hrel
    have hgs := HGS.out.go HR.out j
    have hone := goS_snoc L j s
    have HEj := Lib.hid (HEnd.out j hj)
    generalize goS L j s = sj at *
    have HOne := Lib.hid hone
    have HGj := Lib.hid hgs
    have HBj := Lib.hid hb
    have HCj := Lib.hid hcj
    have kc := hb.kc
    by_cases hjn : (j : Int) < n
    · obtain ⟨kk, hkk⟩ : ∃ kk, sj.t.k = kk := ⟨_, rfl⟩
      rw [hkk] at kc
      have HJ := Lib.hid (show j + 1 ≤ N by have := HN.out; omega)
      have hw : IntKind.i64.wrap ((j : Int) + 1) = ((j + 1 : Nat) : Int) := by rw [IntKind.wrap_i64]; have := HN.out; omega
      by_cases hk0 : kk = 0
      · subst hk0
        have uc := hb.u
        by_cases hu0 : sj.u = 0
        · rw [hu0] at uc
          have HSt := Lib.hid (stop_any hb 16)
          have HZ := Lib.hid (show goS L (j + 1) s = sj.stop 16 by rw [HOne.out]; unfold oneS; rw [if_neg (by rw [hkk]; simp), if_pos hu0])
          have uc0 : wr.cell? ⟨b, 92, none⟩ = some (.int .i64 0) := uc
          clear hb hcj hgs hone hkk hu0 uc
          go_wp2_with fail
          with_reducible refine HSt.out.mono ?_
          rintro e w3 ⟨rfl, h3, hc3⟩
          have HK := Lib.hid (show RB w3 b c L (goS L (j + 1) s) ∧ Ch [b] W w3 from ⟨by rw [HZ.out]; exact h3, HCj.out.trans hc3⟩)
          clear h3 hc3
          go_wp2_with fail
          go_roundw
          case rel => exact ⟨j + 1, rfl, HJ.out, HK.out⟩
          case measure => have := HJ.out; simp [intOf]; omega
        · obtain ⟨z, hz⟩ : ∃ z : Int, (sj.u : Int) = z := ⟨_, rfl⟩
          have h256 := HGj.out.u
          have ez : (z == 0) = false := by rw [beq_eq_false_iff_ne]; omega
          have ew : IntKind.i64.wrap (z - 1) = z - 1 := by rw [IntKind.wrap_i64]; omega
          have hz1 : ((sj.u - 1 : Nat) : Int) = z - 1 := by omega
          rw [hz] at uc
          have h1 := hb.setU (sj.u - 1)
          rw [hz1] at h1
          have hg1 : GS L { sj with u := sj.u - 1 } := ⟨HGj.out.fw, HGj.out.p0, HGj.out.p1, HGj.out.k, by show sj.u - 1 ≤ 256; omega⟩
          obtain ⟨W1, hW1⟩ : ∃ W, wr.setCell ⟨b, 92, none⟩ (.int .i64 (z - 1)) = W := ⟨_, rfl⟩
          have HC1 := Lib.hid (HCj.out.trans (setCh wr b 92 (.int .i64 (z - 1))))
          rw [hW1] at h1 HC1
          have fb := hb.f.fr
          have hlt := HGj.out.lt
          obtain ⟨pk, hpk⟩ : ∃ k : Nat, sj.p = (k : Int) := ⟨sj.p.toNat, by have := HGj.out.p0; omega⟩
          have hat : at' L sj = ia L pk := by unfold at'; rw [hpk, Int.toNat_natCast]
          have hl0 : pk < L.length := by rw [hpk, Int.toNat_natCast] at hlt; exact hlt
          have hl1 : (pk : Int) < (L.length : Int) := by omega
          have HZ := Lib.hid (show goS L (j + 1) s = insS (ia L pk) { sj with u := sj.u - 1 } by rw [HOne.out]; unfold oneS; rw [if_neg (by rw [hkk]; simp), if_neg hu0, hat])
          obtain ⟨cap, l1⟩ := h1.l
          have p1 := h1.p
          simp only at p1
          rw [hpk] at p1
          have hfv := h1.i pk hl0
          rw [ia_at hl0] at hfv
          have HStp := Lib.hid (step_any (h1.quiet (Ch.refl [] W1).drew) hg1.fw (HR.out.fit pk hl0) (HR.out.chk pk hl0) (by show 0 ≤ sj.p ∧ sj.p ≤ 1000; have := HR.out.len; omega))
          obtain ⟨c0, c1, c2, c3, c4⟩ := hfv
          generalize ia L pk = x at *
          obtain ⟨op, d, sr, o, i⟩ := x
          simp only at c0 c1 c2 c3 c4
          unfold iv at HStp
          have HW1 := Lib.hid hW1
          clear hb hcj hgs hone hkk hu0 hz1 h1 hg1 hW1 hlt hpk hat h256 hz
          go_wp2_with fail
          rw [HW1.out]
          go_region_with (first | (with_reducible refine HStp.out.mono ?_; rintro e w3 ⟨rfl, h3, hc3⟩) | fail)
          all_goals
            have HK := Lib.hid (show RB w3 b c L (goS L (j + 1) s) ∧ Ch [b] W w3 from ⟨by rw [HZ.out]; exact h3, HC1.out.drew.trans hc3⟩)
            clear h3 hc3
            first
              | (refine ⟨⟨j + 1, rfl, HJ.out, HK.out⟩, ?_⟩; have := HJ.out; simp [intOf]; omega)
              | (go_wp2_with fail
                 go_roundw
                 case rel => exact ⟨j + 1, rfl, HJ.out, HK.out⟩
                 case measure => have := HJ.out; simp [intOf]; omega)
      · have hkb : (kk != 0) = true := by simpa using hk0
        have HZ := Lib.hid (HEj.out (.inl (by rw [hkk]; exact hk0)))
        obtain ⟨A, hA⟩ : ∃ A, tl sj.t = A := ⟨_, rfl⟩
        have hr := hb.t
        have hl := tl_len sj.t
        have h1 := tl_one sj.t
        rw [hA] at hr hl h1
        have HTr := Lib.hid hr
        have HL := Lib.hid hl
        have H1 := Lib.hid h1
        have hth := World.there_trap2 HTh.out hcj (by have := HBl.out; simp; omega)
        have HThj := Lib.hid hth
        have HRs := Lib.hid (load_A hl (World.rangeAt_setCells_same wr w.heap.size 0 A (by rw [hl]; exact hth)))
        have HK := Lib.hid (show RB (wr.setCells w.heap.size 0 A) b c L (goS L N s) ∧ Ch [b] w (wr.setCells w.heap.size 0 A) from ⟨by rw [← HZ.out]; exact hb.ch (chCells wr w.heap.size A 0) (by have := HBl.out; simp; omega) (by have := HCl.out; simp; omega), ((HC.out.mono (by simp)).trans hcj).freshS (chCells wr w.heap.size A 0) (by simp)⟩)
        have HTt := Lib.hid (show tl (goS L N s).t = A from by rw [← HZ.out, hA])
        clear hb hcj hgs hone hr hth hA hl h1 hkk hk0
        go_wp2_with (first
          | ((with_reducible show wpList _ _ _ (Oper.mk _ (Op.load 44 _) _ _ _ _ :: _) _ _); refine wpList_readA rfl HL.out HTr.out (by rfl) (by rfl) ?_)
          | ((with_reducible show wpList _ _ _ (Oper.mk _ (Op.store 44 _ _) _ _ _ _ :: _) _ _); refine wpList_writeA rfl HThj.out HL.out H1.out (by rfl) (by rfl) (by rfl) ?_)
          | fail)
        try rw [Exit.noGoto_ret]
        refine bodyPost_ret (v := .agg A.toArray) ?_ rfl ?_
        · exact results_one rfl rfl HRs.out
        · exact ⟨by rw [HTt.out], HK.out⟩
    · have hjn' : ¬ (j : Int) < n := hjn
      have HZ := Lib.hid (HEj.out (.inr (by have := HN.out; omega)))
      obtain ⟨A, hA⟩ : ∃ A, tl sj.t = A := ⟨_, rfl⟩
      have hr := hb.t
      have hl := tl_len sj.t
      have h1 := tl_one sj.t
      rw [hA] at hr hl h1
      have HTr := Lib.hid hr
      have HL := Lib.hid hl
      have H1 := Lib.hid h1
      have hth := World.there_trap2 HTh.out hcj (by have := HBl.out; simp; omega)
      have HThj := Lib.hid hth
      have HRs := Lib.hid (load_A hl (World.rangeAt_setCells_same wr w.heap.size 0 A (by rw [hl]; exact hth)))
      have HK := Lib.hid (show RB (wr.setCells w.heap.size 0 A) b c L (goS L N s) ∧ Ch [b] w (wr.setCells w.heap.size 0 A) from ⟨by rw [← HZ.out]; exact hb.ch (chCells wr w.heap.size A 0) (by have := HBl.out; simp; omega) (by have := HCl.out; simp; omega), ((HC.out.mono (by simp)).trans hcj).freshS (chCells wr w.heap.size A 0) (by simp)⟩)
      have HTt := Lib.hid (show tl (goS L N s).t = A from by rw [← HZ.out, hA])
      clear hb hcj hgs hone hr hth hA hl h1 hjn
      go_wp2_with (first
        | ((with_reducible show wpList _ _ _ (Oper.mk _ (Op.load 44 _) _ _ _ _ :: _) _ _); refine wpList_readA rfl HL.out HTr.out (by rfl) (by rfl) ?_)
        | ((with_reducible show wpList _ _ _ (Oper.mk _ (Op.store 44 _ _) _ _ _ _ :: _) _ _); refine wpList_writeA rfl HThj.out HL.out H1.out (by rfl) (by rfl) (by rfl) ?_)
        | fail)
      try rw [Exit.noGoto_ret]
      refine bodyPost_ret (v := .agg A.toArray) ?_ rfl ?_
      · exact results_one rfl rfl HRs.out
      · exact ⟨by rw [HTt.out], HK.out⟩
end
end Go.Proofs.YtpbdmlipdfdblaaDoor

namespace Go.Proofs.YtpbdmlipdfdblaaDoor
open Go.RowKit Go.BigFrame

attribute [local go_sem] Oper.semAt_some

section
variable {w : World} {b c : Nat} {L : List I5} {s : RNS}
theorem give_no (h : RB w b c L s) (hk : s.t.k = 0 ∨ s.t.k = 1) (v : V5) (e : Int) :
    Calls Tryd.prog 17 #[.pointer (some ⟨b, 0, none⟩), vv v, .int .i64 e] w fun r w' => r = .returned (.int .i64 6) ∧ Ch [] w w' := by
  have hc : Ch [] w (w.alloc (.cells #[.bool v.r, .int .i64 v.m, .int .i64 v.s, .int .i64 v.g, .int .u64 (v.n : Int)] 41)) := (Ch.refl [] w).alloc _
  have HA := asks_any (h.quiet hc)
  have e0 : (!(s.t.k == 1) && s.t.k != 0) = false := by rcases hk with hk | hk <;> rw [hk] <;> rfl
  rw [e0] at HA
  have HA := Lib.hid HA
  have HC := Lib.hid hc
  unfold vv
  clear h hc hk
  go_enter Tryd.func17, Tryd.ntmps17
  go_wp2_with fail
  with_reducible refine HA.out.mono ?_
  rintro e w1 ⟨rfl, rfl⟩
  go_wp2_with fail
  go_ret
  exact ⟨rfl, HC.out⟩
theorem end_over (h : RB w b c L s) (hk : s.t.k = 1) (e : Int) :
    Calls Tryd.prog 22 #[.pointer (some ⟨b, 0, none⟩), .int .i64 e] w fun r w' => r = .returned (.int .i64 6) ∧ w = w' := by
  have HO := over_any h
  rw [show (s.t.k == 1) = true by rw [hk]; rfl] at HO
  have HO := Lib.hid HO
  clear h hk
  go_enter Tryd.func22, Tryd.ntmps22
  go_wp2_with fail
  with_reducible refine HO.out.mono ?_
  rintro e w1 ⟨rfl, rfl⟩
  go_wp2_with fail
  go_ret
  exact ⟨rfl, rfl⟩

set_option maxRecDepth 10000 in
set_option maxHeartbeats 4000000 in
theorem give_any (h : RB w b c L s) (hR : RP L) (hG : GS L s) (hk : 2 ≤ s.t.k) (v : V5) :
    Calls Tryd.prog 17 #[.pointer (some ⟨b, 0, none⟩), vv v, .int .i64 0] w fun r w' => r = .returned (.int .i64 0) ∧ RB w' b c L (givS L s v) ∧ Ch [b] w w' := by
  obtain ⟨W, hW⟩ : ∃ W, w.alloc (.cells #[.bool v.r, .int .i64 v.m, .int .i64 v.s, .int .i64 v.g, .int .u64 (v.n : Int)] 41) = W := ⟨_, rfl⟩
  have hc : Ch [] w W := by rw [← hW]; exact (Ch.refl [] w).alloc _
  have hX : B5 W w.heap.size v := by rw [← hW]; exact B5.new w v 41
  have hB := h.quiet hc
  have HA := asks_any hB
  have e0 : (!(s.t.k == 1) && s.t.k != 0) = true := by
    have h1 : (s.t.k == 1) = false := by rw [beq_eq_false_iff_ne]; omega
    have h2 : (s.t.k != 0) = true := by rw [bne_iff_ne]; omega
    rw [h1, h2]; rfl
  rw [e0] at HA
  have HA := Lib.hid HA
  have HB := Lib.hid hB
  have HC := Lib.hid hc
  have HX := Lib.hid hX
  have HW := Lib.hid hW
  have HBl := Lib.hid h.lt
  have k1 := hB.kc
  obtain ⟨kk, hkk⟩ : ∃ kk, s.t.k = kk := ⟨_, rfl⟩
  have hkr : kk = 2 ∨ kk = 3 ∨ kk = 4 := by rcases hG.k with h | h | h <;> omega
  have hp0 := hG.p0
  have hp1 := hG.p1
  have hlen := hR.len
  have hchk := hR.chk _ hG.lt
  have hlt := hG.lt
  obtain ⟨pk, hpk⟩ : ∃ k : Nat, s.p = (k : Int) := ⟨s.p.toNat, by omega⟩
  have ew : IntKind.i64.wrap ((pk : Int) + 1) = (pk : Int) + 1 := by rw [IntKind.wrap_i64]; omega
  rw [hkk] at k1
  obtain ⟨G, hGd⟩ : ∃ G, givS L s v = G := ⟨_, rfl⟩
  have hg : G = { s with F := if s.t.k = 2 then upd s.F 0 v else if s.t.k = 3 then upd s.F (at' L s).d.toNat v else s.F, t := T0 0, p := s.p + 1 } := hGd.symm
  rw [hkk, hpk] at hg
  rw [hGd]
  have hHT : ∀ (w2 : World) (F : FV) (h2 : RB w2 b c L { s with F := F }), (∃ w3, w2.setCells b 93 (tl (T0 0)) = w3 ∧ RB w3 b c L { s with F := F, t := T0 0 } ∧ w3.cell? ⟨b, 91, none⟩ = some (.int .i64 (pk : Int)) ∧ (∀ k, w3.frozen? ⟨b, k, none⟩ = false) ∧ RB (w3.setCell ⟨b, 91, none⟩ (.int .i64 ((pk : Int) + 1))) b c L { s with F := F, t := T0 0, p := (pk : Int) + 1 } ∧ Ch [b] w2 (w3.setCell ⟨b, 91, none⟩ (.int .i64 ((pk : Int) + 1)))) := fun w2 F h2 => by
    have h3 := h2.setT (T0 0)
    refine ⟨_, rfl, h3, ?_, h3.f.fr, h3.setP _, (chCells ..).trans (setCh ..)⟩
    have := h3.p
    simp only at this
    rw [hpk] at this
    exact this
  have HHT := Lib.hid hHT
  clear hHT
  obtain ⟨x0, x1, x2, x3, x4⟩ := hX.a
  simp only [Nat.zero_add] at x0 x1 x2 x3 x4
  rcases hkr with rfl | rfl | rfl
  · rw [if_pos rfl] at hg
    have HZ := Lib.hid hg
    have HSet := Lib.hid (show Calls Tryd.prog 40 #[.pointer (some ⟨b, 0, none⟩), .int .i64 0, vv v] W.drew fun e w' => e = .returned (.int .i64 0) ∧ FR w' b (upd s.F 0 v) ∧ Cf b W.drew w' from setreg_in (hB.f.quiet (Ch.refl [] W).drew) (k := 0) (by decide) v)
    unfold vv at HSet ⊢
    clear hg h hR hG hk hc hX hW hB hkk hp0 hp1 hlen hchk hlt hpk hGd e0
    go_enter Tryd.func17, Tryd.ntmps17
    go_wp2_with fail
    rw [HW.out]
    with_reducible refine HA.out.mono ?_
    rintro e w1 ⟨rfl, rfl⟩
    go_wp2_with fail
    go_region_held (fun w' => w'.cell? ⟨w.heap.size, 0, none⟩ = some (.bool v.r) ∧ w'.cell? ⟨w.heap.size, 1, none⟩ = some (.int .i64 v.m) ∧ w'.cell? ⟨w.heap.size, 2, none⟩ = some (.int .i64 v.s) ∧ w'.cell? ⟨w.heap.size, 3, none⟩ = some (.int .i64 v.g) ∧ w'.cell? ⟨w.heap.size, 4, none⟩ = some (.int .u64 (v.n : Int))) (go_keep) (first
      | (with_reducible refine HSet.out.mono ?_; rintro e w2 ⟨rfl, hF2, hc2⟩; have hc12 := (Cf.refl b W).drew.trans hc2; have HCf := Lib.hid hc12; have HB2 := Lib.hid (HB.out.frame hc12 hF2); have HC2 := Lib.hid ((HC.out.mono (T := [b]) (by simp)).trans hc12.ch); obtain ⟨y0, y1, y2, y3, y4⟩ := HX.out.a.ch hc12.ch (by have := HBl.out; simp; omega); simp only [Nat.zero_add] at y1 y2 y3 y4; clear hF2 hc2 hc12)
      | fail)
    clear x0 x1 x2 x3 x4 y0 y1 y2 y3 y4
    obtain ⟨w3, hw3, h3, p3, f3, hK3, hc3⟩ := HHT.out _ _ HB2.out
    have HTh := Lib.hid HB2.out.there
    have HW3 := Lib.hid hw3
    have HK := Lib.hid (show RB (w3.setCell ⟨b, 91, none⟩ (.int .i64 ((pk : Int) + 1))) b c L G ∧ Ch [b] w (w3.setCell ⟨b, 91, none⟩ (.int .i64 ((pk : Int) + 1))) from ⟨by rw [HZ.out]; exact hK3, HC2.out.trans hc3⟩)
    clear hw3 h3 hK3 hc3 HHT
    go_wp2_with (first
      | ((with_reducible show wpList _ _ _ (Oper.mk _ (Op.build 44 _) _ _ _ _ :: _) _ _); refine wpList_buildT (T0 0) rfl rfl (by kernel_rfl) ?_)
      | ((with_reducible show wpList _ _ _ (Oper.mk _ (Op.store 44 _ _) _ _ _ _ :: _) _ _); refine wpList_writeT rfl HTh.out (T0 0) (by rfl) (by rfl) (by rfl) ?_; rw [HW3.out])
      | fail)
    go_ret
    exact ⟨rfl, HK.out⟩
  · rw [if_neg (by decide), if_pos rfl] at hg
    have HZ := Lib.hid hg
    obtain ⟨-, hIn, -⟩ := chk_zero hchk
    have hat : at' L s = ia L pk := by unfold at'; rw [hpk, Int.toNat_natCast]
    have hl0 : pk < L.length := by rw [hpk, Int.toNat_natCast] at hlt; exact hlt
    have hl1 : (pk : Int) < (L.length : Int) := by omega
    obtain ⟨cap, l1⟩ := hB.l
    have p1 := hB.p
    rw [hpk] at p1
    have hfv := hB.i pk hl0
    rw [ia_at hl0] at hfv
    rw [hpk, Int.toNat_natCast] at hIn
    rw [hat] at HZ
    have d1 := hfv.c1
    have HNe := Lib.hid (show c ∉ [b] from by simpa using hB.ne)
    generalize ia L pk = x at *
    obtain ⟨op, d, sr, o, i⟩ := x
    unfold inB at hIn
    simp only at d1 hIn HZ
    obtain ⟨kd, rfl⟩ : ∃ k : Nat, d = (k : Int) := ⟨d.toNat, by omega⟩
    rw [Int.toNat_natCast] at HZ
    have HSet := Lib.hid (setreg_in (hB.f.quiet (Ch.refl [] W).drew) (k := kd) (by omega) v)
    unfold vv at HSet ⊢
    clear hg h hR hG hk hc hX hW hB hkk hp0 hp1 hlen hchk hlt hpk hGd e0 hfv hIn hat
    go_enter Tryd.func17, Tryd.ntmps17
    go_wp2_with fail
    rw [HW.out]
    with_reducible refine HA.out.mono ?_
    rintro e w1 ⟨rfl, rfl⟩
    go_wp2_with fail
    go_region_held (fun w' => w'.cell? ⟨b, 90, none⟩ = some (.slice (some ⟨c, 0, none⟩) L.length cap) ∧ w'.cell? ⟨b, 91, none⟩ = some (.int .i64 (pk : Int)) ∧ w'.cell? ⟨c, pk * 5 + 1, none⟩ = some (.int .i64 (kd : Int)) ∧ w'.cell? ⟨w.heap.size, 0, none⟩ = some (.bool v.r) ∧ w'.cell? ⟨w.heap.size, 1, none⟩ = some (.int .i64 v.m) ∧ w'.cell? ⟨w.heap.size, 2, none⟩ = some (.int .i64 v.s) ∧ w'.cell? ⟨w.heap.size, 3, none⟩ = some (.int .i64 v.g) ∧ w'.cell? ⟨w.heap.size, 4, none⟩ = some (.int .u64 (v.n : Int))) (go_keep) (first
      | (with_reducible refine HSet.out.mono ?_; rintro e w2 ⟨rfl, hF2, hc2⟩; have hc12 := (Cf.refl b W).drew.trans hc2; have HCf := Lib.hid hc12; have HB2 := Lib.hid (HB.out.frame hc12 hF2); have HC2 := Lib.hid ((HC.out.mono (T := [b]) (by simp)).trans hc12.ch); obtain ⟨y0, y1, y2, y3, y4⟩ := HX.out.a.ch hc12.ch (by have := HBl.out; simp; omega); simp only [Nat.zero_add] at y1 y2 y3 y4; clear hF2 hc2 hc12; have l2 := HCf.out.up _ _ (by omega) l1; have p2 := HCf.out.up _ _ (by omega) p1; have d2 := (HCf.out.ch.cell (p := ⟨c, pk * 5 + 1, none⟩) (cell_lt d1) HNe.out).trans d1)
      | fail)
    clear x0 x1 x2 x3 x4 y0 y1 y2 y3 y4 l1 p1 d1 l2 p2 d2
    obtain ⟨w3, hw3, h3, p3, f3, hK3, hc3⟩ := HHT.out _ _ HB2.out
    have HTh := Lib.hid HB2.out.there
    have HW3 := Lib.hid hw3
    have HK := Lib.hid (show RB (w3.setCell ⟨b, 91, none⟩ (.int .i64 ((pk : Int) + 1))) b c L G ∧ Ch [b] w (w3.setCell ⟨b, 91, none⟩ (.int .i64 ((pk : Int) + 1))) from ⟨by rw [HZ.out]; exact hK3, HC2.out.trans hc3⟩)
    clear hw3 h3 hK3 hc3 HHT
    go_wp2_with (first
      | ((with_reducible show wpList _ _ _ (Oper.mk _ (Op.build 44 _) _ _ _ _ :: _) _ _); refine wpList_buildT (T0 0) rfl rfl (by kernel_rfl) ?_)
      | ((with_reducible show wpList _ _ _ (Oper.mk _ (Op.store 44 _ _) _ _ _ _ :: _) _ _); refine wpList_writeT rfl HTh.out (T0 0) (by rfl) (by rfl) (by rfl) ?_; rw [HW3.out])
      | fail)
    go_ret
    exact ⟨rfl, HK.out⟩
  · rw [if_neg (by decide), if_neg (by decide)] at hg
    have HZ := Lib.hid hg
    have HB2 := Lib.hid (show RB W b c L { s with F := s.F } from hB)
    have HC2 := Lib.hid (HC.out.mono (T := [b]) (by simp))
    unfold vv
    clear hg h hR hG hk hc hX hW hB hkk hp0 hp1 hlen hchk hlt hpk hGd e0
    go_enter Tryd.func17, Tryd.ntmps17
    go_wp2_with fail
    rw [HW.out]
    with_reducible refine HA.out.mono ?_
    rintro e w1 ⟨rfl, rfl⟩
    obtain ⟨w3, hw3, h3, p3, f3, hK3, hc3⟩ := HHT.out _ _ HB2.out
    have HTh := Lib.hid HB2.out.there
    have HW3 := Lib.hid hw3
    have HK := Lib.hid (show RB (w3.setCell ⟨b, 91, none⟩ (.int .i64 ((pk : Int) + 1))) b c L G ∧ Ch [b] w (w3.setCell ⟨b, 91, none⟩ (.int .i64 ((pk : Int) + 1))) from ⟨by rw [HZ.out]; exact hK3, HC2.out.trans hc3⟩)
    clear hw3 h3 hK3 hc3 HHT
    go_wp2_with (first
      | ((with_reducible show wpList _ _ _ (Oper.mk _ (Op.build 44 _) _ _ _ _ :: _) _ _); refine wpList_buildT (T0 0) rfl rfl (by kernel_rfl) ?_)
      | ((with_reducible show wpList _ _ _ (Oper.mk _ (Op.store 44 _ _) _ _ _ _ :: _) _ _); refine wpList_writeT rfl HTh.out (T0 0) (by rfl) (by rfl) (by rfl) ?_; rw [HW3.out])
      | fail)
    go_ret
    exact ⟨rfl, HK.out⟩
end
end Go.Proofs.YtpbdmlipdfdblaaDoor

namespace Go.Proofs.YtpbdmlipdfdblaaDoor
open Go.RowKit Go.BigFrame

attribute [local go_sem] Oper.semAt_some

theorem fivs_range : ∀ (L : List I5) {w : World} {b off : Nat}, (∀ i (hi : i < L.length), FiveO w b (off + i * 5) L[i]) → w.rangeAt b off (L.flatMap fiv)
  | [], _, _, _, _ => fun j v hv => by simp at hv
  | x :: L, w, b, off, h => fun j v hv => by
    rw [List.flatMap_cons] at hv
    have hl : (fiv x).length = 5 := rfl
    by_cases hj : j < 5
    · rw [List.getElem?_append_left (by rw [hl]; exact hj)] at hv
      obtain ⟨c0, c1, c2, c3, c4⟩ := h 0 (by simp)
      simp only [Nat.zero_mul, Nat.add_zero, List.getElem_cons_zero] at c0 c1 c2 c3 c4
      match j, hv with
      | 0, hv => cases hv; exact c0
      | 1, hv => cases hv; exact c1
      | 2, hv => cases hv; exact c2
      | 3, hv => cases hv; exact c3
      | 4, hv => cases hv; exact c4
    · rw [List.getElem?_append_right (by rw [hl]; omega), hl] at hv
      have := fivs_range L (w := w) (b := b) (off := off + 5) (fun i hi => by
        have := h (i + 1) (by simpa using hi)
        rwa [show off + (i + 1) * 5 = off + 5 + i * 5 by omega] at this) (j - 5) v hv
      rwa [show off + 5 + (j - 5) = off + j by omega] at this

/-- A row of instructions that is not empty: its block. -/
theorem IR.own {w : World} {lo T : Nat} {v : Value} {L : List I5} (h : IR w lo T v L) (h0 : 1 ≤ L.length) : ∃ g cap, v = .slice (some ⟨g, 0, none⟩) L.length cap ∧ (∀ k (hk : k < L.length), FiveO w g (k * 5) L[k]) ∧ lo ≤ g ∧ g < w.heap.size := by
  unfold IR at h
  obtain ⟨a, cap, rfl⟩ := own_form h
  obtain ⟨g, rfl, hb, hs, _, hc⟩ := own_cells h 0 (by omega)
  refine ⟨g, cap, rfl, fun i hi => ?_, hb, hs⟩
  obtain ⟨k0, k1, k2, k3, k4⟩ := fivs_at L i hi
  exact ⟨(hc _ (by omega)).trans k0, (hc _ (by omega)).trans k1, (hc _ (by omega)).trans k2, (hc _ (by omega)).trans k3, (hc _ (by omega)).trans k4⟩

set_option maxRecDepth 10000 in
set_option maxHeartbeats 4000000 in
theorem clone_any {w : World} {b off n c : Nat} {L : List I5} (hL : L.length = n) (hn : n ≤ 1000) (h : ∀ i (hi : i < L.length), FiveO w b (off + i * 5) L[i]) :
    Calls Tryd.prog 30 #[.slice (some ⟨b, off, none⟩) n c] w fun e w' => ∃ v, e = .returned v ∧ IR w' w.heap.size 59 v L ∧ Ch [] w w' := by
  obtain ⟨i0, hI, hz0, hz1, hz2⟩ : ∃ i : TypeInfo, Tryd.prog.info? 59 = some i ∧ i.zero = some (.agg #[.int .i64 0, .int .i64 0, .int .i64 0, .int .i64 0, .int .i64 0]) ∧ i.size = 5 ∧ i.bytes = 40 := by
    refine ⟨_, rfl, by kernel_rfl, by kernel_rfl, by kernel_rfl⟩
  have qT : ∀ (w : World) (a : Option Addr) (n c n' c' : Nat), (binOp .eql 24 (.slice a n c) (.slice none n' c')).run Tryd.prog w = .ok (.bool a.isNone) w := fun w a n c n' c' => Lib.run_eql_slice_nil w _ _ a n c n' c' Tryd.underlying24
  have hlen : (L.flatMap fiv).length = n * 5 := by rw [fivs_len, hL]
  have hnews : ∀ j u, (L.flatMap fiv)[j]? = some u → (w.alloc (.cells #[] 59)).cell? ((⟨b, off, none⟩ : Addr).add j) = some u := fun j u hj => by
    rw [addr_add]
    have := fivs_range L h j u hj
    exact (World.cell?_alloc_past _ _ _ (cell_lt this)).trans this
  have h1 : ∀ u ∈ L.flatMap fiv, u.oneCell' = true := fun u hu => by
    obtain ⟨x, _, hx⟩ := List.mem_flatMap.1 hu
    simp [fiv] at hx
    rcases hx with rfl | rfl | rfl | rfl | rfl <;> rfl
  have HLn := Lib.hid hlen
  have HNw := Lib.hid hnews
  have H1 := Lib.hid h1
  have HN := Lib.hid hn
  have HL := Lib.hid hL
  have HO := Lib.hid (World.ownsRow_made (size := 5) (base := w.heap.size) (e := 59) w #[] 0 (Nat.le_refl _) (Nat.zero_le _) rfl)
  generalize hK : L.flatMap fiv = K at *
  have HKd := Lib.hid hK
  clear hlen hnews h1 hn hL h hK
  go_enter Tryd.func30, Tryd.ntmps30
  go_wp2_with (at_builtin; go_must (refine wpList_append_own _ rfl _ _ 24 rfl w.heap.size 59 i0 (.agg #[.int .i64 0, .int .i64 0, .int .i64 0, .int .i64 0, .int .i64 0]) 5 40 Tryd.underlying24 hI hz0 hz1 hz2 rfl (by decide) _ 0 [] rfl HO.out ⟨b, off, none⟩ n c K rfl HLn.out HNw.out H1.out (by have := HN.out; unfold maxLen; omega) (by have := HN.out; omega) (by simp) ?_); intro v3 w3 hown3 hgrow3 hnil3; refine Hid.out ?_)
  refine Lib.hid ?_
  have HC3 := Lib.hid (own_new ((Ch.refl [] w).alloc (.cells #[] 59)) hgrow3 (Nat.le_refl _) HO.out)
  have HR3 := Lib.hid (show IR w3 w.heap.size 59 v3 L by unfold IR; rw [HKd.out, HL.out]; simpa using hown3)
  obtain ⟨av3, ac3, rfl⟩ := own_form hown3
  clear hown3 hgrow3 hnil3
  go_wp2_with fail
  go_ret
  exact ⟨_, rfl, HR3.out, HC3.out⟩

/-- What stands behind a new run's frame. -/
def rest (v : Value) (u : Int) : List Value := v :: .int .i64 0 :: .int .i64 u :: (tl (T0 0) ++ [.int .i64 0, .int .u64 0])
set_option maxRecDepth 100000 in
theorem run_built (F : FV) (a : Option Addr) (n cap : Nat) (u : Int) : Tryd.prog.built 90 [(0, .agg (fl F).toArray), (1, .slice a n cap), (3, .int .i64 u)] = some (fl F ++ rest (.slice a n cap) u).toArray := by kernel_rfl
theorem RB.new (w : World) (F : FV) (u c cap : Nat) {L : List I5} (hc : ∀ k (hk : k < L.length), FiveO w c (k * 5) L[k]) (hcl : c < w.heap.size) :
    RB (w.alloc (.cells (fl F ++ rest (.slice (some ⟨c, 0, none⟩) L.length cap) (u : Int)).toArray 90)) w.heap.size c L ⟨F, 0, u, T0 0, 0, 0⟩ := by
  have e : ∀ k, (w.alloc (.cells (fl F ++ rest (.slice (some ⟨c, 0, none⟩) L.length cap) (u : Int)).toArray 90)).cell? ⟨w.heap.size, k, none⟩ = (fl F ++ rest (.slice (some ⟨c, 0, none⟩) L.length cap) (u : Int))[k]? := fun k => by
    rw [World.cell?_alloc_at _ _ _ _ rfl]; simp
  have r : ∀ j, (w.alloc (.cells (fl F ++ rest (.slice (some ⟨c, 0, none⟩) L.length cap) (u : Int)).toArray 90)).cell? ⟨w.heap.size, 90 + j, none⟩ = (rest (.slice (some ⟨c, 0, none⟩) L.length cap) (u : Int))[j]? := fun j => by
    rw [e, List.getElem?_append_right (by rw [fl_len]; omega), fl_len, show 90 + j - 90 = j by omega]
  have hq : Ch [] w (w.alloc (.cells (fl F ++ rest (.slice (some ⟨c, 0, none⟩) L.length cap) (u : Int)).toArray 90)) := (Ch.refl [] w).alloc _
  refine ⟨FR.of (fun j v hv => ?_) (fun _ => World.frozen?_alloc_new w _ _ _), ⟨cap, r 0⟩, fun k hk => (hc k hk).ch hq (by simp), by omega, r 1, r 2, fun j v hv => ?_, r 37, r 38⟩
  · rw [Nat.zero_add, e, List.getElem?_append_left (List.getElem?_eq_some_iff.1 hv).1]; exact hv
  · have hj : j < 34 := (List.getElem?_eq_some_iff.1 hv).1
    rw [show 93 + j = 90 + (j + 3) by omega, r]
    show (tl (T0 0) ++ _)[j]? = some v
    rw [List.getElem?_append_left hj]; exact hv

theorem wp_boxTo {P : Program} {o : Oper} {a : Act} {w : World} {K : Act → World → Prop} {Q : Exit → Act → World → Prop} (t : TypeId) (x : Operand) (ho : o.op = .box t x) (cells : Array Value) (hx : (a.eval x).cells = cells)
    (h : K (a.put o.dst (.pointer (some ⟨w.heap.size, 0, none⟩))) (w.alloc (.cells cells t))) : o.wp P a w K Q := by
  subst hx
  unfold Oper.wp execOp
  simp only [ho, Sem.run_bind, Instr.box, newVar, newRow, run_newObj_alloc, Sem.run_pure, Result.andThen_ok]
  exact h

section
variable {w : World} {ca : Option Addr} {n cap : Nat} {L : List I5} {sl : Bool} {a : Option Addr} {m mc : Nat} {l : List V5}
set_option maxRecDepth 10000 in
set_option maxHeartbeats 4000000 in
theorem vnew_bad (hL : L.length = n) (hfit : ∀ x ∈ L, Fit x) (hI : InsAt w ca L) (hT : Tb w) (hr : (res L sl).2 ≠ 0) (u : Int) :
    Calls Tryd.prog 8 #[.agg #[.slice ca n cap, .bool sl], .int .i64 u, .slice a m mc] w fun r w' => r = .returned (.tuple #[.pointer none, .int .i64 (res L sl).2]) ∧ Ch [] w w' := by
  have hc : Ch [] w (w.alloc (.cells #[.slice ca n cap, .bool sl] 27)) := (Ch.refl [] w).alloc _
  have HP := Lib.hid (pcheck_any (cap := cap) (sl := sl) hL hfit (hI.ch hc (by simp)) (hT.ch hc))
  have HC := Lib.hid hc
  generalize (res L sl).2 = er at *
  generalize (((res L sl).1 : Nat) : Int) = pl at *
  have hn : (er != 0) = true := by simpa using hr
  clear hL hfit hI hT hr hc
  go_enter Tryd.func8, Tryd.ntmps8
  go_wp2_with fail
  with_reducible refine HP.out.mono ?_
  rintro e w1 ⟨rfl, hc1⟩
  have HC1 := Lib.hid (HC.out.trans hc1)
  clear hc1 HC HP
  go_wp2_with fail
  go_ret2
  exact ⟨rfl, HC1.out⟩
set_option maxRecDepth 10000 in
set_option maxHeartbeats 8000000 in
theorem vnew_any {cb off : Nat} (hL : L.length = n) (hfit : ∀ x ∈ L, Fit x) (hI : ∀ i (hi : i < L.length), FiveO w cb (off + i * 5) L[i]) (hT : Tb w) (hr : (res L sl).2 = 0) {u : Nat} (hu : 1 ≤ u ∧ u ≤ 256)
    (hl : l.length = m) (h5 : m ≤ 5) (hV : ValsAt w a l) (hnil : a = none → m = 0 → mc = 0) :
    Calls Tryd.prog 8 #[.agg #[.slice (some ⟨cb, off, none⟩) n cap, .bool sl], .int .i64 (u : Int), .slice a m mc] w fun r w' => ∃ b c, r = .returned (.tuple #[.pointer (some ⟨b, 0, none⟩), .int .i64 0]) ∧ RB w' b c L (newS u l) ∧ Ch [] w w' ∧ w.heap.size ≤ b ∧ w.heap.size ≤ c := by
  have hc : Ch [] w (w.alloc (.cells #[.slice (some ⟨cb, off, none⟩) n cap, .bool sl] 27)) := (Ch.refl [] w).alloc _
  have hP := pcheck_any (cap := cap) (sl := sl) hL hfit (InsAt.ch (.inr ⟨cb, off, rfl, hI⟩) hc (by simp)) (hT.ch hc)
  rw [hr] at hP
  have hlen := (res_right hr).2.1
  have hlen1 := (res_right hr).1
  generalize (((res L sl).1 : Nat) : Int) = pl at *
  have HP := Lib.hid hP
  have HN := Lib.hid (fun W (h : Ch [] w W) => new_any (w := W) (cap := mc) hl h5 (hV.ch h (by simp)) hnil)
  have HCl := Lib.hid (fun W (h : Ch [] w W) => clone_any (w := W) (c := cap) hL (by omega) (fun i hi => (hI i hi).ch h (by simp)))
  have HC := Lib.hid hc
  have HTw := Lib.hid (Two.new w (.slice (some ⟨cb, off, none⟩) n cap) (.bool sl) 27)
  have hu1 : ¬ (u : Int) < 1 := by omega
  have hu2 : ¬ (u : Int) > 256 := by omega
  have HL := Lib.hid hL
  have HLe := Lib.hid hlen1
  have HSz := Lib.hid (show w.heap.size < (w.alloc (.cells #[.slice (some ⟨cb, off, none⟩) n cap, .bool sl] 27)).heap.size by simp)
  clear hL hfit hI hT hr hu hl h5 hV hnil hc hP hlen hlen1
  go_enter Tryd.func8, Tryd.ntmps8
  go_wp2_with fail
  with_reducible refine HP.out.mono ?_
  rintro e w1 ⟨rfl, hc1⟩
  have HC1 := Lib.hid (HC.out.trans hc1)
  have HTw1 := Lib.hid (show Two w1 w.heap.size (.slice (some ⟨cb, off, none⟩) n cap) (.bool sl) from ⟨(hc1.cell (cell_lt HTw.out.c0) (by simp)).trans HTw.out.c0, (hc1.cell (cell_lt HTw.out.c1) (by simp)).trans HTw.out.c1⟩)
  clear hc1 HC HP HTw HSz
  go_wp2_with fail
  with_reducible refine (HN.out _ HC1.out).mono ?_
  rintro e w2 ⟨rfl, hF, hc2⟩
  have HC2 := Lib.hid (HC1.out.trans hc2)
  have hFr := hF.range
  have htw2 : w2.cell? ⟨w.heap.size, 0, none⟩ = some (.slice (some ⟨cb, off, none⟩) n cap) := (hc2.cell (cell_lt HTw1.out.c0) (by simp)).trans HTw1.out.c0
  have HCl2 := Lib.hid (HCl.out w2.drew HC2.out.drew)
  obtain ⟨F, hFd⟩ : ∃ F, updL F0 1 l = F := ⟨_, rfl⟩
  rw [hFd] at hFr hF
  have HFd := Lib.hid hFd
  have HF := Lib.hid hF
  generalize hf : w1.heap.size = f at *
  have HFB := Lib.hid hf
  clear hc2 HN HCl HTw1 hFd hF hf HC1
  go_wp2_with fail
  obtain ⟨A, hA⟩ : ∃ A, fl F = A := ⟨_, rfl⟩
  have hAl : A.length = 90 := by rw [← hA]; exact fl_len F
  rw [hA] at hFr
  have HA := Lib.hid hA
  have HAl := Lib.hid hAl
  clear hA hAl
  refine wp_region_noPanic ?_
  refine wp_region_held_drew (S := fun w' : World => w'.rangeAt f 0 A ∧ w'.cell? ⟨w.heap.size, 0, none⟩ = some (.slice (some ⟨cb, off, none⟩) n cap)) (by kernel_rfl) (show w2.drew.rangeAt f 0 A ∧ w2.drew.cell? ⟨w.heap.size, 0, none⟩ = some (.slice (some ⟨cb, off, none⟩) n cap) from ⟨hFr, htw2⟩) (fun hHeld => ?_)
  refine wpAnyH_take (i := 0) (oi := { dst := some 34, op := _, type := _, pos := _, after := _, guard := _ }) (v := ?v0) rfl (by kernel_rfl) (by kernel_rfl) (by kernel_rfl) (fun _ _ _ h => h) (.inl ⟨by rfl, ?h0⟩) (by assumption) ?_
  case h0 => intro wz hSw; have hSw2 := hSw.2; go_simp; (try with_reducible rfl)
  try simp only [Act.put, List.setIfInBounds_toArray, List.set_cons_zero, List.set_cons_succ]
  refine wpAnyH_take (i := 1) (oi := { dst := some 35, op := _, type := _, pos := _, after := _, guard := _ }) (v := ?v1) rfl (by kernel_rfl) (by kernel_rfl) (by kernel_rfl) (fun _ _ _ h => h) (.inl ⟨by rfl, ?h1⟩) (by assumption) ?_
  case h1 => intro wz hSw; have hSw2 := hSw.2; go_simp; (try with_reducible rfl)
  try simp only [Act.put, List.setIfInBounds_toArray, List.set_cons_zero, List.set_cons_succ]
  refine wpAnyH_take (i := 2) (oi := { dst := some 36, op := _, type := _, pos := _, after := _, guard := _ }) (v := .agg A.toArray) rfl (by kernel_rfl) (by kernel_rfl) (by kernel_rfl) (fun _ _ _ h => h) (yieldsIf_load_mid (by rfl) 87 _ rfl f 0 (by rfl) A _ (fun wz hz => hz.1) Tryd.underlying87 rfl (by rw [HAl.out]; kernel_rfl)) (by assumption) ?_
  try simp only [Act.put, List.setIfInBounds_toArray, List.set_cons_zero, List.set_cons_succ]
  refine wpAnyH_take (i := 3) (oi := { dst := some 37, op := _, type := _, pos := _, after := _, guard := _ }) (v := ?v3) rfl (by kernel_rfl) (by kernel_rfl) (by kernel_rfl) (fun _ _ _ h => h) (.inl ⟨by rfl, ?h3⟩) (by assumption) ?_
  case h3 => intro wz hSw; have hSw2 := hSw.2; go_simp; (try with_reducible rfl)
  try simp only [Act.put, List.setIfInBounds_toArray, List.set_cons_zero, List.set_cons_succ]
  refine wpAnyH_take (i := 4) (oi := { dst := some 38, op := _, type := _, pos := _, after := _, guard := _ }) (v := ?v4) rfl (by kernel_rfl) (by kernel_rfl) (by kernel_rfl) (fun _ _ _ h => h) (.inl ⟨by rfl, ?h4⟩) (by assumption) ?_
  case h4 => intro wz hSw; have hSw2 := hSw.2; go_simp; (try with_reducible rfl)
  try simp only [Act.put, List.setIfInBounds_toArray, List.set_cons_zero, List.set_cons_succ]
  refine wpAnyH_take (i := 6) (oi := { dst := some 40, op := _, type := _, pos := _, after := _, guard := _ }) (v := ?v6) rfl (by kernel_rfl) (by kernel_rfl) (by kernel_rfl) (fun _ _ _ h => h) (.inl ⟨by rfl, ?h6⟩) (by assumption) ?_
  case h6 => intro wz hSw; have hSw2 := hSw.2; go_simp; (try with_reducible rfl)
  try simp only [Act.put, List.setIfInBounds_toArray, List.set_cons_zero, List.set_cons_succ]
  refine wpAnyH_ready (rs := [5]) (by kernel_rfl) (by simp) ?_
  refine AllReadyH.cons (o := { dst := some 39, op := _, type := _, pos := _, after := _, guard := _ }) rfl (fun K hK => ?_) AllReadyH.nil
  go_simp
  with_reducible refine HCl2.out.mono ?_
  rintro e w3 ⟨v, rfl, hir, hc3⟩
  obtain ⟨g, gc, rfl, hfv, hg1, hg2⟩ := hir.own HLe.out
  have hc23 : Ch [] w2 w3 := (Ch.refl [] w2).drew.trans hc3
  have hFr3 : w3.rangeAt f 0 A := fun j v hv => (hc23.cell (p := ⟨f, 0 + j, none⟩) (cell_lt (hFr j v hv)) (by simp)).trans (hFr j v hv)
  have htw3 : w3.cell? ⟨w.heap.size, 0, none⟩ = some (.slice (some ⟨cb, off, none⟩) n cap) := (hc23.cell (cell_lt htw2) (by simp)).trans htw2
  have hb := run_built F (some ⟨g, 0, none⟩) L.length gc (u : Int)
  rw [HA.out] at hb
  have hRB := RB.new w3 F u g gc hfv hg2
  rw [HA.out] at hRB
  obtain ⟨R, hR⟩ : ∃ R, A ++ rest (.slice (some ⟨g, 0, none⟩) L.length gc) (u : Int) = R := ⟨_, rfl⟩
  rw [hR] at hb hRB
  have HBt := Lib.hid hb
  have HRB := Lib.hid hRB
  have HC3 := Lib.hid (HC2.out.trans hc23)
  have HG := Lib.hid (show w.heap.size ≤ g by have := HC2.out.size; simp at hg1; omega)
  clear hir hc3 hc23 hfv hg1 hg2 hb hRB hR
  refine hK.out _ _ ⟨hFr3, htw3⟩ (fun hHeld => ?_)
  clear hK K
  try simp only [Act.put, List.setIfInBounds_toArray, List.set_cons_zero, List.set_cons_succ]
  refine wpAnyH_take (i := 7) (oi := { dst := some 41, op := _, type := _, pos := _, after := _, guard := _ }) (v := .agg R.toArray) rfl (by kernel_rfl) (by kernel_rfl) (by kernel_rfl) (fun _ _ _ h => h) (yieldsIf_build (by rfl) 90 _ rfl (Eq.trans (by kernel_rfl) HBt.out)) (by assumption) ?_
  try simp only [Act.put, List.setIfInBounds_toArray, List.set_cons_zero, List.set_cons_succ]
  have hFr4 : (w3.alloc (.cells R.toArray 90)).rangeAt f 0 A := fun j v hv => (World.cell?_alloc_past _ _ _ (cell_lt (hFr3 j v hv))).trans (hFr3 j v hv)
  have htw4 : (w3.alloc (.cells R.toArray 90)).cell? ⟨w.heap.size, 0, none⟩ = some (.slice (some ⟨cb, off, none⟩) n cap) := (World.cell?_alloc_past _ _ _ (cell_lt htw3)).trans htw3
  refine wpAnyH_ready (rs := [8]) (by kernel_rfl) (by simp) ?_
  refine AllReadyH.cons (o := { dst := some 42, op := _, type := _, pos := _, after := _, guard := _ }) rfl (fun K hK => ?_) AllReadyH.nil
  rw [if_pos (by rfl)]
  refine wp_boxTo 90 _ rfl R.toArray (by rfl) ?_
  refine hK.out _ _ ⟨hFr4, htw4⟩ (fun hHeld => ?_)
  clear hK K
  try simp only [Act.put, List.setIfInBounds_toArray, List.set_cons_zero, List.set_cons_succ]
  refine wpAnyH_take (i := 9) (oi := { dst := some 6, op := _, type := _, pos := _, after := _, guard := _ }) (v := ?v9) rfl (by kernel_rfl) (by kernel_rfl) (by kernel_rfl) (fun _ _ _ h => h) (.inl ⟨by rfl, ?h9⟩) (by assumption) ?_
  case h9 => intro wz hSw; have hSw2 := hSw.2; go_simp; (try with_reducible rfl)
  try simp only [Act.put, List.setIfInBounds_toArray, List.set_cons_zero, List.set_cons_succ]
  refine wpAnyH_take (i := 10) (oi := { dst := some 7, op := _, type := _, pos := _, after := _, guard := _ }) (v := ?v10) rfl (by kernel_rfl) (by kernel_rfl) (by kernel_rfl) (fun _ _ _ h => h) (.inl ⟨by rfl, ?h10⟩) (by assumption) ?_
  case h10 => intro wz hSw; have hSw2 := hSw.2; go_simp; (try with_reducible rfl)
  try simp only [Act.put, List.setIfInBounds_toArray, List.set_cons_zero, List.set_cons_succ]
  refine wpAnyH_done (by kernel_rfl) ?_ _
  refine NoPanic.normal ?_
  go_wp2_with fail
  go_ret2
  refine ⟨_, g, rfl, ?_, HC3.out.alloc _, HC3.out.size, HG.out⟩
  unfold newS
  rw [HFd.out]
  exact HRB.out
end
end Go.Proofs.YtpbdmlipdfdblaaDoor

namespace Go.Proofs.YtpbdmlipdfdblaaDoor
open Go.RowKit Go.BigFrame

attribute [local go_sem] Oper.semAt_some

theorem lk0 (L : List I5) (sl : Bool) (a : Nat) : lk L sl 0 a = chk (ia L a) := by unfold lk; rw [if_pos rfl]
theorem lk1 (L : List I5) (sl : Bool) (a : Nat) : lk L sl 1 a = wrg L.length sl (ia L a) a := by unfold lk; rw [if_neg (by decide), if_pos rfl]
theorem lk2 (L : List I5) (sl : Bool) (a : Nat) : lk L sl 2 a = if rb L a = true then 0 else 19 := by unfold lk; rw [if_neg (by decide), if_neg (by decide)]
def mov7 : I5 := ⟨11, 0, 0, 0, 7⟩
def exi : I5 := ⟨73, 0, 0, 0, 0⟩
theorem fit_small {x : I5} (h : (-1000 ≤ x.op ∧ x.op ≤ 1000) ∧ (-1000 ≤ x.d ∧ x.d ≤ 1000) ∧ (-1000 ≤ x.s ∧ x.s ≤ 1000) ∧ (-1000 ≤ x.o ∧ x.o ≤ 1000) ∧ (-1000 ≤ x.i ∧ x.i ≤ 1000)) : Fit x := by
  obtain ⟨h1, h2, h3, h4, h5⟩ := h
  exact ⟨⟨by omega, by omega⟩, ⟨by omega, by omega⟩, ⟨by omega, by omega⟩, ⟨by omega, by omega⟩, ⟨by omega, by omega⟩⟩
theorem resA : ((((res [mov7, exi] false).1 : Nat) : Int) = 0 ∧ (res [mov7, exi] false).2 = 0) := by
  have h0 : Rch [mov7, exi] 0 := .zero (by decide)
  have h1 : Rch [mov7, exi] 1 := .step h0 (by decide) (by decide +kernel)
  rw [res_ok (by decide) (fun j hj b hb => by
    have hb : b = 0 ∨ b = 1 := by have : b < 2 := hb; omega
    obtain rfl | rfl | rfl : j = 0 ∨ j = 1 ∨ j = 2 := by omega
    · rcases hb with rfl | rfl <;> rw [lk0] <;> decide +kernel
    · rcases hb with rfl | rfl <;> rw [lk1] <;> decide +kernel
    · show (if rb _ b = true then (0 : Int) else 19) = 0
      rcases hb with rfl | rfl
      · rw [if_pos (rb_iff.2 h0)]
      · rw [if_pos (rb_iff.2 h1)])]
  exact ⟨rfl, rfl⟩
def cal1 : I5 := ⟨72, 0, 0, 0, 1⟩
def kA : List I5 := [mov7, exi]
def kB : List I5 := [cal1, exi]
theorem resK : ((((res [cal1, exi] false).1 : Nat) : Int) = 0 ∧ (res [cal1, exi] false).2 = 0) := by
  have h0 : Rch [cal1, exi] 0 := .zero (by decide)
  have h1 : Rch [cal1, exi] 1 := .step h0 (by decide) (by decide +kernel)
  rw [res_ok (by decide) (fun j hj b hb => by
    have hb : b = 0 ∨ b = 1 := by have : b < 2 := hb; omega
    obtain rfl | rfl | rfl : j = 0 ∨ j = 1 ∨ j = 2 := by omega
    · rcases hb with rfl | rfl <;> rw [lk0] <;> decide +kernel
    · rcases hb with rfl | rfl <;> rw [lk1] <;> decide +kernel
    · show (if rb _ b = true then (0 : Int) else 19) = 0
      rcases hb with rfl | rfl
      · rw [if_pos (rb_iff.2 h0)]
      · rw [if_pos (rb_iff.2 h1)])]
  exact ⟨rfl, rfl⟩
theorem fitA : ∀ x ∈ kA, Fit x := by
  intro x hx
  simp only [kA, List.mem_cons, List.not_mem_nil, or_false] at hx
  rcases hx with rfl | rfl <;> exact fit_small (by decide)
theorem fitB : ∀ x ∈ kB, Fit x := by
  intro x hx
  simp only [kB, List.mem_cons, List.not_mem_nil, or_false] at hx
  rcases hx with rfl | rfl <;> exact fit_small (by decide)
theorem rpA : RP kA := RP.of fitA resA.2
theorem rpB : RP kB := RP.of fitB resK.2
theorem gs0 {L : List I5} (hR : RP L) {u : Nat} (hu : u ≤ 256) : GS L (newS u []) := GS.new hR hu (fun _ h => by simp at h)
theorem sA1 : (goS kA 1 (newS 2 [])).t.k = 0 ∧ (goS kA 1 (newS 2 [])).p = 1 := by decide +kernel
theorem sA2 : (goS kA 1 (goS kA 1 (newS 2 []))).t.k = 1 ∧ (goS kA 1 (goS kA 1 (newS 2 []))).e = 0 ∧ (goS kA 1 (goS kA 1 (newS 2 []))).v = 7 := by decide +kernel
theorem sA3 : (goS kA 9 (newS 1 [])).t.k = 1 ∧ (goS kA 9 (newS 1 [])).e = 16 := by decide +kernel
theorem sB1 : (goS kB 9 (newS 9 [])).t.k = 2 ∧ (goS kB 9 (newS 9 [])).t.h = 1 := by decide +kernel
theorem sB2 : (goS kB 9 (givS kB (goS kB 9 (newS 9 [])) (num 9))).t.k = 1 ∧ (goS kB 9 (givS kB (goS kB 9 (newS 9 [])) (num 9))).v = 9 := by decide +kernel

theorem field_k (T : TR) (w : World) : (Instr.field 44 (.agg (tl T).toArray) 0).run Tryd.prog w = .ok (.int .i64 T.k) w := by kernel_rfl
/-- A run of a literal program. -/
theorem vnew_lit {W : World} {L : List I5} {cs : Array Value} (hcs : cs = (L.flatMap fiv).toArray) {n : Nat} (hL : L.length = n) (hfit : ∀ x ∈ L, Fit x) {sl : Bool} (hr : (res L sl).2 = 0) (hT : Tb W) {u : Nat} (hu : 1 ≤ u ∧ u ≤ 256) :
    Calls Tryd.prog 8 #[.agg #[.slice (some ⟨W.heap.size, 0, none⟩) n n, .bool sl], .int .i64 (u : Int), .slice none 0 0] (W.alloc (.cells cs 59)) fun r w' => ∃ b c, r = .returned (.tuple #[.pointer (some ⟨b, 0, none⟩), .int .i64 0]) ∧ RB w' b c L (newS u []) ∧ Ch [] W w' ∧ W.heap.size ≤ b ∧ W.heap.size ≤ c := by
  have e : ∀ k, (W.alloc (.cells cs 59)).cell? ⟨W.heap.size, k, none⟩ = (L.flatMap fiv)[k]? := fun k => by
    rw [World.cell?_alloc_at _ _ _ _ rfl, hcs]
    simp
  refine (vnew_any (w := W.alloc (.cells cs 59)) (cap := n) (sl := sl) (a := none) (m := 0) (mc := 0) (l := []) (off := 0) hL hfit (fun i hi => ?_) (hT.ch ((Ch.refl [] W).alloc _)) hr hu rfl (by decide) (.inl rfl) (fun _ _ => rfl)).mono ?_
  · obtain ⟨h0, h1, h2, h3, h4⟩ := fivs_at L i hi
    rw [Nat.zero_add]
    exact ⟨(e _).trans h0, (e _).trans h1, (e _).trans h2, (e _).trans h3, (e _).trans h4⟩
  · rintro r w' ⟨b, c, rfl, hB, hc, h1, h2⟩
    simp at h1 h2
    exact ⟨b, c, rfl, hB, ((Ch.refl [] W).alloc _).trans hc, by omega, by omega⟩
theorem go_at {w : World} {b c : Nat} {L : List I5} {s : RNS} (h : RB w b c L s) (hR : RP L) (hG : GS L s) {n : Int} (hn : n ≤ 9223372036854775807) {N : Nat} (hN : n.toNat = N) {k : Int} (hk : (goS L N s).t.k = k) :
    Calls Tryd.prog 12 #[.pointer (some ⟨b, 0, none⟩), .int .i64 n] w fun r w' => ∃ Z : Array Value, r = .returned (.agg Z) ∧ (∀ w, (Instr.field 44 (.agg Z) 0).run Tryd.prog w = .ok (.int .i64 k) w) ∧ Z = (tl (goS L N s).t).toArray ∧ RB w' b c L (goS L N s) ∧ Ch [b] w w' := by
  subst hN hk
  refine (go_any h hR hG hn).mono ?_
  rintro r w' ⟨rfl, hB, hc⟩
  exact ⟨_, rfl, fun w => field_k _ w, rfl, hB, hc⟩
/-- A new variable of type Trap, with a trap written into it. -/
theorem new_trap (w : World) {A : List Value} (hl : A.length = 34) : ∃ W1 W, w.alloc (.cells (tl (T0 0)).toArray 44) = W1 ∧ W1.there w.heap.size 0 34 ∧ W1.setCells w.heap.size 0 A = W ∧ W.rangeAt w.heap.size 0 A ∧ W.there w.heap.size 0 34 ∧ Ch [] w W := by
  have hth : (w.alloc (.cells (tl (T0 0)).toArray 44)).there w.heap.size 0 34 := there_trap w (T0 0) 44
  exact ⟨_, _, rfl, hth, rfl, World.rangeAt_setCells_same _ _ _ _ (by rw [hl]; exact hth), World.there_setCells hth _ _ _, ((Ch.refl [] w).alloc _).fresh (chCells _ _ _ _) (by simp)⟩

set_option maxRecDepth 10000 in
set_option maxHeartbeats 8000000 in
theorem known19 {w : World} (hT : Tb w) : Calls Tryd.prog 11 #[] w fun e w' => e = .returned (.bool true) ∧ Ch [] w w' := by
  have HT := Lib.hid hT
  obtain ⟨w0, hw0⟩ : ∃ w0, ((w.alloc (.cells #[.int .i64 11, .int .i64 0, .int .i64 0, .int .i64 0, .int .i64 7] 59)).alloc (.cells #[.int .i64 72, .int .i64 0, .int .i64 0, .int .i64 0, .int .i64 1] 59)).alloc (.cells #[.int .i64 73, .int .i64 0, .int .i64 0, .int .i64 0, .int .i64 0] 59) = w0 := ⟨_, rfl⟩
  have hc0 : Ch [] w w0 := by rw [← hw0]; exact (((Ch.refl [] w).alloc _).alloc _).alloc _
  have h1 : Five w0 w.heap.size mov7 := by
    rw [← hw0]; exact ((Five.new w mov7 59).ch ((Ch.refl [] _).alloc _) (by simp)).ch ((Ch.refl [] _).alloc _) (by simp)
  have h2 : Five w0 (w.heap.size + 1) cal1 := by
    have := Five.new (w.alloc (.cells #[.int .i64 11, .int .i64 0, .int .i64 0, .int .i64 0, .int .i64 7] 59)) cal1 59
    rw [World.size_alloc] at this
    rw [← hw0]; exact this.ch ((Ch.refl [] _).alloc _) (by simp)
  have h3 : Five w0 (w.heap.size + 1 + 1) exi := by
    have := Five.new ((w.alloc (.cells #[.int .i64 11, .int .i64 0, .int .i64 0, .int .i64 0, .int .i64 7] 59)).alloc (.cells #[.int .i64 72, .int .i64 0, .int .i64 0, .int .i64 0, .int .i64 1] 59)) exi 59
    rw [World.size_alloc, World.size_alloc] at this
    rw [← hw0]; exact this
  have HF1 := Lib.hid h1
  have HF2 := Lib.hid h2
  have HF3 := Lib.hid h3
  have HC0 := Lib.hid hc0
  have HW0 := Lib.hid hw0
  clear hT hw0 hc0 h1 h2 h3
  go_enter Tryd.func11, Tryd.ntmps11
  refine wp_seq_k (fun K0 hK0 => ?_)
  have HK0 := Lib.hid hK0
  clear hK0
  go_wp2
  refine HK0.out _ _ ?_
  clear HK0
  refine wp_seq_k (fun K0 hK0 => ?_)
  have HK0 := Lib.hid hK0
  clear hK0
  go_wp2
  refine HK0.out _ _ ?_
  clear HK0
  rw [HW0.out]
  obtain ⟨a0, a1, a2, a3, a4⟩ := HF1.out
  obtain ⟨e0, e1, e2, e3, e4⟩ := HF3.out
  simp only [mov7, exi] at a0 a1 a2 a3 a4 e0 e1 e2 e3 e4
  have HN := Lib.hid (show Calls Tryd.prog 8 #[.agg #[.slice (some ⟨w0.heap.size, 0, none⟩) 2 2, .bool false], .int .i64 2, .slice none 0 0] (w0.alloc (.cells #[.int .i64 11, .int .i64 0, .int .i64 0, .int .i64 0, .int .i64 7, .int .i64 73, .int .i64 0, .int .i64 0, .int .i64 0, .int .i64 0] 59)) _ from vnew_lit (L := kA) (u := 2) rfl rfl fitA resA.2 (HT.out.ch HC0.out) (by decide))
  go_wp2_with fail
  with_reducible refine HN.out.mono ?_
  rintro e w1 ⟨b1, c1, rfl, hb, hc, hl, -⟩
  have HBw1 := Lib.hid hb
  have HCw1 := Lib.hid ((Ch.refl [] w0).trans hc)
  have HLb1 := Lib.hid (show ∀ k ∈ [b1], w0.heap.size ≤ k from by simp; have := (Ch.refl [] w0).size; omega)
  clear hb hc hl HN
  clear a0 a1 a2 a3 a4 e0 e1 e2 e3 e4
  have HGo := Lib.hid (go_at HBw1.out rpA (gs0 rpA (by decide)) (n := 1) (by decide) (N := 1) rfl sA1.1)
  go_wp2_with fail
  with_reducible refine HGo.out.mono ?_
  rintro e w2 ⟨Zw2, rfl, hfdw2, hZw2, hb, hc⟩
  have HZw2 := Lib.hid hZw2
  have HBw2 := Lib.hid hb
  have HCw2 := Lib.hid (HCw1.out.fresh hc HLb1.out)
  clear hb hc HGo hZw2
  have HAt := place_any HBw2.out
  rw [sA1.2] at HAt
  replace HAt := Lib.hid HAt
  go_wp2_with fail
  with_reducible refine HAt.out.mono ?_
  rintro e w3 ⟨rfl, rfl⟩
  clear HAt
  have HGo := Lib.hid (go_at HBw2.out rpA ((gs0 rpA (by decide)).go rpA 1) (n := 1) (by decide) (N := 1) rfl sA2.1)
  go_wp2_with fail
  with_reducible refine HGo.out.mono ?_
  rintro e w4 ⟨Zw4, rfl, hfdw4, hZw4, hb, hc⟩
  have HZw4 := Lib.hid hZw4
  have HBw4 := Lib.hid hb
  have HCw4 := Lib.hid (HCw2.out.fresh hc HLb1.out)
  clear hb hc HGo hZw4
  have HCo := codeE_any HBw4.out
  rw [sA2.2.1] at HCo
  replace HCo := Lib.hid HCo
  have HRe := result_any HBw4.out
  rw [sA2.2.2] at HRe
  replace HRe := Lib.hid (show Calls Tryd.prog 16 #[.pointer (some ⟨b1, 0, none⟩)] w4 fun e w' => e = .returned (.int .u64 7) ∧ w4 = w' from HRe)
  go_wp2_with fail
  with_reducible refine HCo.out.mono ?_
  rintro e w5 ⟨rfl, rfl⟩
  go_wp2_with fail
  with_reducible refine HRe.out.mono ?_
  rintro e w5 ⟨rfl, rfl⟩
  clear HCo HRe
  obtain ⟨a0, a1, a2, a3, a4⟩ := HF1.out.ch HCw4.out (by simp)
  obtain ⟨e0, e1, e2, e3, e4⟩ := HF3.out.ch HCw4.out (by simp)
  simp only [mov7, exi] at a0 a1 a2 a3 a4 e0 e1 e2 e3 e4
  have HN := Lib.hid (show Calls Tryd.prog 8 #[.agg #[.slice (some ⟨w4.heap.size, 0, none⟩) 2 2, .bool false], .int .i64 1, .slice none 0 0] (w4.alloc (.cells #[.int .i64 11, .int .i64 0, .int .i64 0, .int .i64 0, .int .i64 7, .int .i64 73, .int .i64 0, .int .i64 0, .int .i64 0, .int .i64 0] 59)) _ from vnew_lit (L := kA) (u := 1) rfl rfl fitA resA.2 (HT.out.ch (HC0.out.trans HCw4.out)) (by decide))
  go_wp2_with fail
  with_reducible refine HN.out.mono ?_
  rintro e w6 ⟨b2, c2, rfl, hb, hc, hl, -⟩
  have HBw6 := Lib.hid hb
  have HCw6 := Lib.hid (HCw4.out.trans hc)
  have HLb2 := Lib.hid (show ∀ k ∈ [b2], w0.heap.size ≤ k from by simp; have := HCw4.out.size; omega)
  clear hb hc hl HN
  clear a0 a1 a2 a3 a4 e0 e1 e2 e3 e4
  have HGo := Lib.hid (go_at HBw6.out rpA (gs0 rpA (by decide)) (n := 9) (by decide) (N := 9) rfl sA3.1)
  go_wp2_with fail
  with_reducible refine HGo.out.mono ?_
  rintro e w7 ⟨Zw7, rfl, hfdw7, hZw7, hb, hc⟩
  have HZw7 := Lib.hid hZw7
  have HBw7 := Lib.hid hb
  have HCw7 := Lib.hid (HCw6.out.fresh hc HLb2.out)
  clear hb hc HGo hZw7
  have HCo := codeE_any HBw7.out
  rw [sA3.2] at HCo
  replace HCo := Lib.hid HCo
  go_wp2_with fail
  with_reducible refine HCo.out.mono ?_
  rintro e w8 ⟨rfl, rfl⟩
  clear HCo
  obtain ⟨a0, a1, a2, a3, a4⟩ := HF2.out.ch HCw7.out (by simp)
  obtain ⟨e0, e1, e2, e3, e4⟩ := HF3.out.ch HCw7.out (by simp)
  simp only [cal1, exi] at a0 a1 a2 a3 a4 e0 e1 e2 e3 e4
  have HN := Lib.hid (show Calls Tryd.prog 8 #[.agg #[.slice (some ⟨w7.heap.size, 0, none⟩) 2 2, .bool false], .int .i64 9, .slice none 0 0] (w7.alloc (.cells #[.int .i64 72, .int .i64 0, .int .i64 0, .int .i64 0, .int .i64 1, .int .i64 73, .int .i64 0, .int .i64 0, .int .i64 0, .int .i64 0] 59)) _ from vnew_lit (L := kB) (u := 9) rfl rfl fitB resK.2 (HT.out.ch (HC0.out.trans HCw7.out)) (by decide))
  go_wp2_with fail
  with_reducible refine HN.out.mono ?_
  rintro e w9 ⟨b3, c3, rfl, hb, hc, hl, -⟩
  have HBw9 := Lib.hid hb
  have HCw9 := Lib.hid (HCw7.out.trans hc)
  have HLb3 := Lib.hid (show ∀ k ∈ [b3], w0.heap.size ≤ k from by simp; have := HCw7.out.size; omega)
  clear hb hc hl HN
  clear a0 a1 a2 a3 a4 e0 e1 e2 e3 e4
  have HGo := Lib.hid (go_at HBw9.out rpB (gs0 rpB (by decide)) (n := 9) (by decide) (N := 9) rfl sB1.1)
  go_wp2_with fail
  with_reducible refine HGo.out.mono ?_
  rintro e wa ⟨Zwa, rfl, hfdwa, hZwa, hb, hc⟩
  have HZwa := Lib.hid hZwa
  have HBwa := Lib.hid hb
  have HCwa := Lib.hid (HCw9.out.fresh hc HLb3.out)
  clear hb hc HGo hZwa
  obtain ⟨A, hA⟩ : ∃ A, tl (goS kB 9 (newS 9 [])).t = A := ⟨_, rfl⟩
  have hl := tl_len (goS kB 9 (newS 9 [])).t
  have h1 := tl_one (goS kB 9 (newS 9 [])).t
  have g0 : (tl (goS kB 9 (newS 9 [])).t)[0]? = some (.int .i64 2) := by rw [← sB1.1]; rfl
  have g1 : (tl (goS kB 9 (newS 9 [])).t)[1]? = some (.int .i64 1) := by rw [← sB1.2]; rfl
  rw [hA] at hl h1 g0 g1
  have hZ := HZwa.out
  rw [hA] at hZ
  subst hZ
  obtain ⟨wb, wc, hwb, htb, hwc, hrc, -, hcc⟩ := new_trap wa hl
  have c0 := hrc 0 _ g0
  have c1 := hrc 1 _ g1
  simp only [Nat.zero_add] at c0 c1
  have HWb := Lib.hid hwb
  have HWc := Lib.hid hwc
  have HTb := Lib.hid htb
  have HL := Lib.hid hl
  have H1 := Lib.hid h1
  have HBwc := Lib.hid (HBwa.out.quiet hcc)
  have HCwc := Lib.hid (HCwa.out.trans hcc)
  have HGs := Lib.hid ((gs0 rpB (u := 9) (by decide)).go rpB 9)
  have HNu := Lib.hid (show Calls Tryd.prog 21 #[.int .u64 9] wc fun e w' => e = .returned (vv (num 9)) ∧ Ch [] wc w' from num_any 9 wc)
  have HGi := Lib.hid (fun W (h : RB W b3 c3 kB (goS kB 9 (newS 9 []))) => give_any h rpB HGs.out (by rw [sB1.1]; decide) (num 9))
  have HGv := Lib.hid ((HGs.out.give rpB (by rw [sB1.1]; decide) (v := num 9) (by decide)))
  have hB2 := sB2
  generalize num 9 = v9 at HNu HGi HGv hB2
  have HB2 := Lib.hid hB2
  clear hB2
  unfold vv at HNu HGi
  clear hA hl h1 g0 g1 hwb htb hwc hrc hcc hfdwa HZwa
  go_wp2_with (first
    | ((with_reducible show wpList _ _ _ (Oper.mk _ (Op.alloc 44) _ _ _ _ :: _) _ _); refine wpList_allocZ zT rfl (by rfl) ?_; rw [HWb.out])
    | ((with_reducible show wpList _ _ _ (Oper.mk _ (Op.store 44 _ _) _ _ _ _ :: _) _ _); refine wpList_writeA rfl HTb.out HL.out H1.out (by rfl) (by rfl) (by rfl) ?_; rw [HWc.out])
    | fail)
  with_reducible refine HNu.out.mono ?_
  rintro e wd ⟨rfl, hcd⟩
  have HBd := Lib.hid (HGi.out wd (HBwc.out.quiet hcd))
  have HCd := Lib.hid (HCwc.out.trans hcd)
  clear hcd HNu HGi c0 c1
  go_wp2_with fail
  with_reducible refine HBd.out.mono ?_
  rintro e we ⟨rfl, hb, hc⟩
  have HBwe := Lib.hid hb
  have HCwe := Lib.hid (HCd.out.fresh hc HLb3.out)
  clear hb hc HBd
  have HGo := Lib.hid (go_at HBwe.out rpB HGv.out (n := 9) (by decide) (N := 9) rfl HB2.out.1)
  go_wp2_with fail
  with_reducible refine HGo.out.mono ?_
  rintro e wf ⟨Zf, rfl, hfdf, -, hb, hc⟩
  have HRe := result_any hb
  rw [HB2.out.2] at HRe
  replace HRe := Lib.hid (show Calls Tryd.prog 16 #[.pointer (some ⟨b3, 0, none⟩)] wf fun e w' => e = .returned (.int .u64 9) ∧ wf = w' from HRe)
  have HCf := Lib.hid (HC0.out.trans (HCwe.out.fresh hc HLb3.out))
  clear hb hc HGo
  go_wp2_with fail
  with_reducible refine HRe.out.mono ?_
  rintro e wg ⟨rfl, rfl⟩
  go_wp2_with fail
  go_ret
  exact ⟨rfl, HCf.out⟩
end Go.Proofs.YtpbdmlipdfdblaaDoor

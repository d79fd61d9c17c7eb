/-
  FrameRefs: the law's walk. (Written by gen/refs18.py.)
-/
import Derived.Test.YtlffcccicpdnfaaIsN
namespace Go.Proofs.Ytlffcccicpdnfaa
open Go.RowKit Go.BigFrame

attribute [local go_sem] Oper.semAt_some

/-- It is a word, or one of those that were handed in. -/
def PRef (L : List V5) (x : V5) : Prop := x.r = false ∨ x ∈ L
theorem oth_ref {L : List V5} {F : FV} (h : ∀ i, PRef L (F i)) (x : I5) (last : Int) : PRef L (oth F x last) := by
  unfold oth; split
  · exact h _
  · exact .inl rfl
theorem upd_ref {L : List V5} {F : FV} (h : ∀ i, PRef L (F i)) (k : Nat) {x : V5} (hx : PRef L x) : ∀ i, PRef L (upd F k x i) := fun i => by
  unfold upd; split
  · exact hx
  · exact h i
theorem fdo_ref {L : List V5} {F : FV} (h : ∀ i, PRef L (F i)) (x : I5) : ∀ i, PRef L ((fdo F x).1 i) := by
  unfold fdo sumV
  repeat' split
  all_goals first
    | exact h
    | exact upd_ref h _ (oth_ref h x 12)
    | exact upd_ref h _ (.inl rfl)
    | exact upd_ref h _ (h _)
theorem ref_seen {L : List V5} {x : V5} (h : PRef L x) : (!x.r || L.any (eqV x)) = true := by
  rcases h with h | h
  · rw [h]; rfl
  · rw [show L.any (eqV x) = true from List.any_eq_true.2 ⟨x, h, eqV_self x⟩, Bool.or_true]
theorem any_snoc {L : List V5} {x : V5} {j : Nat} (hj : j < L.length) : (L.take (j + 1)).any (eqV x) = ((L.take j).any (eqV x) || eqV x (L.getD j (num 0))) := by
  rw [take_at hj, List.any_append]; simp

set_option maxRecDepth 20000 in
set_option maxHeartbeats 16000000 in
theorem refs_law {a0 a1 : Option Addr} {n0 c0 n1 c1 : Nat} {L0 : List V5} {I : List I5} {w : World} (hl0 : L0.length = n0) (hn0 : n0 ≤ c0) (hV0 : ValsAt w a0 L0) (hW0 : ∀ x ∈ L0, W64 x.n) (hl1 : I.length = n1) (hI0 : InsAt w a1 I) (hFit : ∀ x ∈ I, Fit x) :
    Calls Try.prog 5 #[.slice a0 n0 c0, .slice a1 n1 c1] w fun e w' => e = .returned (.bool true) ∧ Ch [] w w' := by
  obtain ⟨m, hmin⟩ : ∃ m : Nat, (if (5 : Int) < (n0 : Int) then (5 : Int) else (n0 : Int)) = (m : Int) := ⟨min n0 5, by split <;> omega⟩
  obtain ⟨L, hLt⟩ : ∃ L, L0.take 5 = L := ⟨_, rfl⟩
  have hmm : m = min n0 5 := by split at hmin <;> omega
  have hL : L.length = m := by rw [← hLt, List.length_take]; omega
  have hW : ∀ x ∈ L, W64 x.n := by rw [← hLt]; exact fun x hx => hW0 x (List.mem_of_mem_take hx)
  have hV : ValsAt w a0 L := by
    rw [← hLt]
    rcases hV0 with h | ⟨b, off, e, h⟩
    · exact .inl (by rw [h]; rfl)
    · exact .inr ⟨b, off, e, fun i hi => by
        have := h i (by simp at hi; omega)
        rwa [List.getElem_take]⟩
  have hm5 : m ≤ 5 := by omega
  have hmc : m ≤ c0 := by omega
  have hmin2 : min (n0 : Int) 5 = (m : Int) := by omega
  have hneg : decide ((m : Int) < 0) = false := decide_eq_false (by omega)
  have HV := Lib.hid hV
  have HL := Lib.hid hL
  have HM5 := Lib.hid hm5
  have HI := Lib.hid hI0
  have HI1 := Lib.hid hl1
  have HFi := Lib.hid hFit
  have HTs := Lib.hid (fun c => tos_any (cap := c) hL (by omega) hV)
  have HFW0 := Lib.hid (updL_fw L F0 1 FW0 hW)
  have HPR0 := Lib.hid (updL_ref (PRef L) L F0 1 (fun _ => .inl rfl) (fun x hx => .inr hx))
  have HNw := Lib.hid (fun (W : World) (a : Option Addr) (c : Nat) (hv : ValsAt W a L) (hn : a = none → m = 0 → c = 0) => new_any (cap := c) hL hm5 hv hn)
  have HKn := Lib.hid (fun W => known18 W)
  clear hmm hm5 hL hV hW hLt hl0 hV0 hW0 hl1 hI0 hFit hn0
  go_enter Try.func5, Try.ntmps5
  go_wp2_with fail
  with_reducible refine (HTs.out _).mono ?_
  rintro e w1 ⟨v, rfl, hv1, hc1⟩
  obtain ⟨va, vc, rfl, hva, hvn, -⟩ := hv1.form
  rw [HL.out] at hvn ⊢
  obtain ⟨b, hb⟩ : ∃ b, w1.heap.size = b := ⟨_, rfl⟩
  have hN := HNw.out w1 va vc hva hvn
  rw [hb] at hN
  have HNn := Lib.hid hN
  have HBl := Lib.hid (show w.heap.size ≤ b by rw [← hb]; exact hc1.size)
  have HC1 := Lib.hid hc1
  clear hv1 hc1 hva hvn hb hN HTs HNw hmin hmin2 hneg hmc
  go_wp2_with fail
  with_reducible refine HNn.out.mono ?_
  rintro e w2 ⟨rfl, hF2, hc2⟩
  have HF2 := Lib.hid hF2
  have HC2 := Lib.hid (HC1.out.trans hc2)
  clear hF2 hc2 HNn HC1
  go_wp2_with fail
  go_loopw [7] (fun i wr => ∃ (t : Nat) (F : FV), i = .int .i64 (t : Int) ∧ t ≤ n1 ∧ t ≤ 80 ∧ FR wr b F ∧ FW F ∧ (∀ i, PRef L (F i)) ∧ Ch [] w wr) (fun i _ => 80 - (intOf i).toNat)
  case atStart => exact ⟨0, _, rfl, Nat.zero_le _, by decide, HF2.out, HFW0.out, HPR0.out, HC2.out⟩
  case round =>
    obtain ⟨t, F, rfl, ht1, ht2, hF, hFW, hPR, hc⟩ := hrel
    have HF := Lib.hid hF
    have HC := Lib.hid hc
    have hgo : (t < n1 ∧ t < 80) ∨ ¬ (t < n1 ∧ t < 80) := Decidable.em _
    rcases hgo with ⟨h1, h2⟩ | hgo
    · have h1' : (t : Int) < (n1 : Int) := by omega
      have h2' : (t : Int) < 80 := by omega
      have htI : t < I.length := by rw [HI1.out]; exact h1
      rcases HI.out with h0 | ⟨b1, off1, rfl, hcl⟩
      · exfalso; rw [h0] at htI; simp at htI
      obtain ⟨c0, c1, c2, c3, c4⟩ := (hcl t htI).ch hc (by simp)
      have hfx : Fit I[t] := HFi.out _ (List.getElem_mem htI)
      generalize I[t] = x at *
      have HTi := Lib.hid (fun w => to_any x w)
      have HDo := Lib.hid (fun W (h : FR W b F) => fdo_any h hFW hfx)
      have HFW := Lib.hid (fdo_fw hFW x)
      have HPR := Lib.hid (fdo_ref hPR x)
      obtain ⟨G, hG⟩ : ∃ G, (fdo F x).1 = G := ⟨_, rfl⟩
      rw [hG] at HFW HPR HDo
      generalize (fdo F x).2 = E at *
      obtain ⟨op, d, s, o, i⟩ := x
      unfold iv at *
      simp only at *
      clear hcl htI hfx hF hFW hPR hc hG h1 h2
      go_wp2_with fail
      with_reducible refine (HTi.out _).mono ?_
      rintro e w3 ⟨rfl, hc3⟩
      have HD := Lib.hid (HDo.out w3 (HF.out.quiet hc3))
      have HC3 := Lib.hid (HC.out.trans hc3)
      clear c0 c1 c2 c3 c4 hc3 HTi HDo
      go_wp2_with fail
      with_reducible refine HD.out.mono ?_
      rintro e w4 ⟨rfl, hF4, hc4⟩
      have HF4 := Lib.hid hF4
      have HC4 := Lib.hid (HC3.out.fresh hc4 (by have := HBl.out; simp; omega))
      clear hF4 hc4 HD HC3
      go_wp2_with fail
      go_loopw [8] (fun k wr => ∃ kk : Nat, k = .int .i64 (kk : Int) ∧ kk ≤ 18 ∧ Ch [] w4 wr) (fun k _ => 18 - (intOf k).toNat)
      case atStart => exact ⟨0, rfl, by decide, Ch.refl _ _⟩
      case round =>
        obtain ⟨kk, rfl, hk, hc⟩ := hrel
        have HC5 := Lib.hid hc
        have HFk := Lib.hid (HF4.out.quiet hc)
        clear hc
        by_cases hk18 : kk < 18
        · have hk18' : (kk : Int) < 18 := by omega
          have HX := Lib.hid (HPR.out kk)
          by_cases hk10 : kk < 10
          · have hk10' : (kk : Int) < 10 := by omega
            have hkd : decide ((kk : Int) ≥ 10) = false := decide_eq_false (by omega)
            have hkn : ¬ 10 ≤ kk := by omega
            have HR := Lib.hid (reg_in HFk.out hk10)
            generalize G kk = x at *
            unfold vv at HR
            go_wp2_with fail
            with_reducible refine HR.out.mono ?_
            rintro e w6 ⟨rfl, hc6⟩
            obtain ⟨V, hV⟩ : ∃ b, w6.heap.size = b := ⟨_, rfl⟩
            obtain ⟨W, hW⟩ : ∃ W, w6.alloc (.cells #[.bool x.r, .int .i64 x.m, .int .i64 x.s, .int .i64 x.g, .int .u64 (x.n : Int)] 38) = W := ⟨_, rfl⟩
            have hB : B5 W V x := by rw [← hW, ← hV]; exact B5.new w6 x _
            have hcW := hc6.alloc (.cells #[.bool x.r, .int .i64 x.m, .int .i64 x.s, .int .i64 x.g, .int .u64 (x.n : Int)] 38)
            rw [hW] at hcW
            have xx := hB.a.c0
            have HB := Lib.hid hB
            have HCW := Lib.hid (HC5.out.trans hcW)
            have HW := Lib.hid hW
            have HV2 := Lib.hid hV
            rw [← hW] at xx
            clear hB hcW hc6 HR hV hW hk10 hk10'
            go_wp2_with fail
            rw [HV2.out, HW.out]
            clear xx HW HV2
            go_loopw [11, 12] (fun q j wr => ∃ jj : Nat, j = .int .i64 (jj : Int) ∧ jj ≤ m ∧ q = .bool (!x.r || (L.take jj).any (eqV x)) ∧ Ch [] W wr) (fun _ j _ => m - (intOf j).toNat)
            case atStart => exact ⟨0, rfl, Nat.zero_le _, by simp, Ch.refl _ _⟩
            case round =>
              obtain ⟨jj, rfl, hj, rfl, hc⟩ := hrel
              have HCj := Lib.hid hc
              have HBj := Lib.hid (HB.out.quiet hc)
              clear hc
              by_cases hjm : jj < m
              · have hjm' : (jj : Int) < (m : Int) := by omega
                have hjL : jj < L.length := by rw [HL.out]; exact hjm
                have HSn := Lib.hid (any_snoc (x := x) hjL)
                have hjw : IntKind.i64.wrap ((jj : Int) + 1) = ((jj + 1 : Nat) : Int) := by rw [IntKind.wrap_i64]; have := HM5.out; omega
                rcases HV.out with h0 | ⟨b0, off0, rfl, hcl⟩
                · exfalso; rw [h0] at hjL; simp at hjL
                have HY := Lib.hid ((ValsAt.at hcl hjL).ch ((HC4.out.trans HCW.out).trans HCj.out) (by simp))
                have HTo := Lib.hid (fun w => to5_any (L.getD jj (num 0)) w)
                have HE := Lib.hid (fun w => eq_fv x (L.getD jj (num 0)) w)
                generalize L.getD jj (num 0) = y at *
                unfold vv at HTo HE
                obtain ⟨q, hq⟩ : ∃ q, (!x.r || (L.take jj).any (eqV x)) = q := ⟨_, rfl⟩
                have HQ := Lib.hid (show (!x.r || (L.take (jj + 1)).any (eqV x)) = (q || eqV x y) by rw [HSn.out, ← Bool.or_assoc, hq])
                rw [hq]
                generalize eqV x y = r at *
                clear hcl hjL hq HSn hjm
                obtain ⟨Gt, f', hf1, hf2⟩ := worlds_of wr
                have hx0 : ∀ g : Gt, (f' g).cell? ⟨V, 0, none⟩ = some (.bool x.r) := fun g => ((HBj.out.quiet (hf1 g)).a).c0
                have hx1 : ∀ g : Gt, (f' g).cell? ⟨V, 1, none⟩ = some (.int .i64 x.m) := fun g => ((HBj.out.quiet (hf1 g)).a).c1
                have hx2 : ∀ g : Gt, (f' g).cell? ⟨V, 2, none⟩ = some (.int .i64 x.s) := fun g => ((HBj.out.quiet (hf1 g)).a).c2
                have hx3 : ∀ g : Gt, (f' g).cell? ⟨V, 3, none⟩ = some (.int .i64 x.g) := fun g => ((HBj.out.quiet (hf1 g)).a).c3
                have hx4 : ∀ g : Gt, (f' g).cell? ⟨V, 4, none⟩ = some (.int .u64 (x.n : Int)) := fun g => ((HBj.out.quiet (hf1 g)).a).c4
                have hy0 : ∀ g : Gt, (f' g).cell? ⟨b0, off0 + jj * 5, none⟩ = some (.bool y.r) := fun g => (HY.out.ch (hf1 g) (by simp)).c0
                have hy1 : ∀ g : Gt, (f' g).cell? ⟨b0, off0 + jj * 5 + 1, none⟩ = some (.int .i64 y.m) := fun g => (HY.out.ch (hf1 g) (by simp)).c1
                have hy2 : ∀ g : Gt, (f' g).cell? ⟨b0, off0 + jj * 5 + 2, none⟩ = some (.int .i64 y.s) := fun g => (HY.out.ch (hf1 g) (by simp)).c2
                have hy3 : ∀ g : Gt, (f' g).cell? ⟨b0, off0 + jj * 5 + 3, none⟩ = some (.int .i64 y.g) := fun g => (HY.out.ch (hf1 g) (by simp)).c3
                have hy4 : ∀ g : Gt, (f' g).cell? ⟨b0, off0 + jj * 5 + 4, none⟩ = some (.int .u64 (y.n : Int)) := fun g => (HY.out.ch (hf1 g) (by simp)).c4
                have hne : Nonempty Gt := ⟨(hf2 wr (Ch.refl _ _)).choose⟩
                have HZ1 := Lib.hid hf1
                have HZ2 := Lib.hid hf2
                have HQw := Ch.refl [] wr
                have e1 := HE.out
                clear hf1 hf2
                cases q
                all_goals
                  go_wp2_with fail
                  refine wp_region_worlds f' (by kernel_rfl) (by kernel_rfl) (HZ2.out _ HQw.drew) ?_
                  repeat (go_big_quiet_step (first
                    | (with_reducible refine (HTo.out _).mono ?_; rintro r w' ⟨rfl, hcw⟩; exact ⟨rfl, HZ2.out w' ((HZ1.out _).trans hcw)⟩)))
                  refine wpQuiet_nil ?_
                  rintro _ ⟨gz, rfl⟩
                  have HZ := Lib.hid (HCj.out.trans (HZ1.out gz))
                  generalize f' gz = wz at *
                  clear hx0 hx1 hx2 hx3 hx4 hy0 hy1 hy2 hy3 hy4 hne HQw e1
                  go_wp2_with fail
                  go_roundw
                  case rel => exact ⟨jj + 1, by go_num, by omega, by rw [HQ.out]; simp, HZ.out⟩
                  case measure => simp [intOf]; omega
              · have hjm' : ¬ (jj : Int) < (m : Int) := by omega
                have hseen : (!x.r || (L.take jj).any (eqV x)) = true := by
                  rw [List.take_of_length_le (by have := HL.out; omega)]; exact ref_seen HX.out
                rw [hseen]
                have hkw2 : IntKind.i64.wrap ((kk : Int) + 1) = ((kk + 1 : Nat) : Int) := by rw [IntKind.wrap_i64]; omega
                clear hseen hjm
                go_wp2_with fail
                go_roundw
                case rel => exact ⟨kk + 1, by go_num, by omega, HCW.out.trans HCj.out⟩
                case measure => simp [intOf]; omega
          · have hkd : decide ((kk : Int) ≥ 10) = true := decide_eq_true (by omega)
            have hk10' : 10 ≤ kk := by omega
            obtain ⟨kw, hkw⟩ : ∃ kw, kw = kk - 10 := ⟨_, rfl⟩
            have hk8 : kw < 8 := by omega
            have hwr : IntKind.i64.wrap ((kk : Int) - 10) = (kw : Int) := by rw [IntKind.wrap_i64]; omega
            have HR := Lib.hid (fun W => reg_out (w := W) b (k := (kk : Int)) (by omega))
            have HWd := Lib.hid (fun W (h : FR W b G) => show Calls Try.prog 8 #[.pointer (some ⟨b, 0, none⟩), .int .i64 (kw : Int)] W fun e w' => e = .returned (.tuple #[vv (G kk), .int .i64 0]) ∧ Ch [] W w' from by have := word_in h hk8; rwa [show 10 + kw = kk by omega] at this)
            generalize G kk = x at *
            unfold vv at HR HWd
            clear hkw hk8
            go_wp2_with fail
            with_reducible refine (HR.out _).mono ?_
            rintro e w6 ⟨rfl, hc6⟩
            obtain ⟨z, hz⟩ : ∃ z, num 0 = z := ⟨_, rfl⟩
            rw [hz]
            obtain ⟨V, hV⟩ : ∃ b, w6.heap.size = b := ⟨_, rfl⟩
            obtain ⟨W0, hW⟩ : ∃ W, w6.alloc (.cells #[.bool z.r, .int .i64 z.m, .int .i64 z.s, .int .i64 z.g, .int .u64 (z.n : Int)] 38) = W := ⟨_, rfl⟩
            have HB0 := Lib.hid (show B5 W0 V z by rw [← hW, ← hV]; exact B5.new w6 z _)
            have hcW := hc6.alloc (.cells #[.bool z.r, .int .i64 z.m, .int .i64 z.s, .int .i64 z.g, .int .u64 (z.n : Int)] 38)
            rw [hW] at hcW
            have HC6 := Lib.hid (HC5.out.trans hcW)
            have HF6 := Lib.hid (HFk.out.quiet hcW)
            have HVs := Lib.hid (show w4.heap.size ≤ V by rw [← hV]; exact Nat.le_trans HC5.out.size hc6.size)
            have HW := Lib.hid hW
            have HV2 := Lib.hid hV
            clear hcW hc6 HR hV hW hz
            go_wp2_with fail
            rw [HV2.out, HW.out]
            with_reducible refine (HWd.out _ HF6.out).mono ?_
            rintro e w7 ⟨rfl, hc7⟩
            obtain ⟨⟨y0, y1, y2, y3, y4⟩, yf⟩ := HB0.out.quiet hc7
            simp only [Nat.zero_add] at y1 y2 y3 y4
            obtain ⟨W, hW⟩ : ∃ W, st5 w7 V 0 x = W := ⟨_, rfl⟩
            have hB : B5 W V x := by rw [← hW]; exact (HB0.out.quiet hc7).set x
            have HB := Lib.hid hB
            have HCW := Lib.hid (show Ch [] w4 W by rw [← hW]; exact (HC6.out.trans hc7).fresh (st5_ch w7 V 0 x) (by have := HVs.out; simp; omega))
            have xx := hB.a.c0
            unfold st5 at hW
            simp only [Nat.zero_add] at hW
            have HW3 := Lib.hid hW
            rw [← hW] at xx
            clear hB hc7 HWd HW HV2 hW HC6 HF6 HB0
            go_wp2_with fail
            rw [HW3.out]
            clear xx HW3 y0 y1 y2 y3 y4 yf
            go_loopw [11, 12] (fun q j wr => ∃ jj : Nat, j = .int .i64 (jj : Int) ∧ jj ≤ m ∧ q = .bool (!x.r || (L.take jj).any (eqV x)) ∧ Ch [] W wr) (fun _ j _ => m - (intOf j).toNat)
            case atStart => exact ⟨0, rfl, Nat.zero_le _, by simp, Ch.refl _ _⟩
            case round =>
              obtain ⟨jj, rfl, hj, rfl, hc⟩ := hrel
              have HCj := Lib.hid hc
              have HBj := Lib.hid (HB.out.quiet hc)
              clear hc
              by_cases hjm : jj < m
              · have hjm' : (jj : Int) < (m : Int) := by omega
                have hjL : jj < L.length := by rw [HL.out]; exact hjm
                have HSn := Lib.hid (any_snoc (x := x) hjL)
                have hjw : IntKind.i64.wrap ((jj : Int) + 1) = ((jj + 1 : Nat) : Int) := by rw [IntKind.wrap_i64]; have := HM5.out; omega
                rcases HV.out with h0 | ⟨b0, off0, rfl, hcl⟩
                · exfalso; rw [h0] at hjL; simp at hjL
                have HY := Lib.hid ((ValsAt.at hcl hjL).ch ((HC4.out.trans HCW.out).trans HCj.out) (by simp))
                have HTo := Lib.hid (fun w => to5_any (L.getD jj (num 0)) w)
                have HE := Lib.hid (fun w => eq_fv x (L.getD jj (num 0)) w)
                generalize L.getD jj (num 0) = y at *
                unfold vv at HTo HE
                obtain ⟨q, hq⟩ : ∃ q, (!x.r || (L.take jj).any (eqV x)) = q := ⟨_, rfl⟩
                have HQ := Lib.hid (show (!x.r || (L.take (jj + 1)).any (eqV x)) = (q || eqV x y) by rw [HSn.out, ← Bool.or_assoc, hq])
                rw [hq]
                generalize eqV x y = r at *
                clear hcl hjL hq HSn hjm
                obtain ⟨Gt, f', hf1, hf2⟩ := worlds_of wr
                have hx0 : ∀ g : Gt, (f' g).cell? ⟨V, 0, none⟩ = some (.bool x.r) := fun g => ((HBj.out.quiet (hf1 g)).a).c0
                have hx1 : ∀ g : Gt, (f' g).cell? ⟨V, 1, none⟩ = some (.int .i64 x.m) := fun g => ((HBj.out.quiet (hf1 g)).a).c1
                have hx2 : ∀ g : Gt, (f' g).cell? ⟨V, 2, none⟩ = some (.int .i64 x.s) := fun g => ((HBj.out.quiet (hf1 g)).a).c2
                have hx3 : ∀ g : Gt, (f' g).cell? ⟨V, 3, none⟩ = some (.int .i64 x.g) := fun g => ((HBj.out.quiet (hf1 g)).a).c3
                have hx4 : ∀ g : Gt, (f' g).cell? ⟨V, 4, none⟩ = some (.int .u64 (x.n : Int)) := fun g => ((HBj.out.quiet (hf1 g)).a).c4
                have hy0 : ∀ g : Gt, (f' g).cell? ⟨b0, off0 + jj * 5, none⟩ = some (.bool y.r) := fun g => (HY.out.ch (hf1 g) (by simp)).c0
                have hy1 : ∀ g : Gt, (f' g).cell? ⟨b0, off0 + jj * 5 + 1, none⟩ = some (.int .i64 y.m) := fun g => (HY.out.ch (hf1 g) (by simp)).c1
                have hy2 : ∀ g : Gt, (f' g).cell? ⟨b0, off0 + jj * 5 + 2, none⟩ = some (.int .i64 y.s) := fun g => (HY.out.ch (hf1 g) (by simp)).c2
                have hy3 : ∀ g : Gt, (f' g).cell? ⟨b0, off0 + jj * 5 + 3, none⟩ = some (.int .i64 y.g) := fun g => (HY.out.ch (hf1 g) (by simp)).c3
                have hy4 : ∀ g : Gt, (f' g).cell? ⟨b0, off0 + jj * 5 + 4, none⟩ = some (.int .u64 (y.n : Int)) := fun g => (HY.out.ch (hf1 g) (by simp)).c4
                have hne : Nonempty Gt := ⟨(hf2 wr (Ch.refl _ _)).choose⟩
                have HZ1 := Lib.hid hf1
                have HZ2 := Lib.hid hf2
                have HQw := Ch.refl [] wr
                have e1 := HE.out
                clear hf1 hf2
                cases q
                all_goals
                  go_wp2_with fail
                  refine wp_region_worlds f' (by kernel_rfl) (by kernel_rfl) (HZ2.out _ HQw.drew) ?_
                  repeat (go_big_quiet_step (first
                    | (with_reducible refine (HTo.out _).mono ?_; rintro r w' ⟨rfl, hcw⟩; exact ⟨rfl, HZ2.out w' ((HZ1.out _).trans hcw)⟩)))
                  refine wpQuiet_nil ?_
                  rintro _ ⟨gz, rfl⟩
                  have HZ := Lib.hid (HCj.out.trans (HZ1.out gz))
                  generalize f' gz = wz at *
                  clear hx0 hx1 hx2 hx3 hx4 hy0 hy1 hy2 hy3 hy4 hne HQw e1
                  go_wp2_with fail
                  go_roundw
                  case rel => exact ⟨jj + 1, by go_num, by omega, by rw [HQ.out]; simp, HZ.out⟩
                  case measure => simp [intOf]; omega
              · have hjm' : ¬ (jj : Int) < (m : Int) := by omega
                have hseen : (!x.r || (L.take jj).any (eqV x)) = true := by
                  rw [List.take_of_length_le (by have := HL.out; omega)]; exact ref_seen HX.out
                rw [hseen]
                have hkw2 : IntKind.i64.wrap ((kk : Int) + 1) = ((kk + 1 : Nat) : Int) := by rw [IntKind.wrap_i64]; omega
                clear hseen hjm
                go_wp2_with fail
                go_roundw
                case rel => exact ⟨kk + 1, by go_num, by omega, HCW.out.trans HCj.out⟩
                case measure => simp [intOf]; omega
        · have hk18' : ¬ (kk : Int) < 18 := by omega
          clear hk18
          go_wp2_with fail
          go_roundw
          case rel => exact ⟨t + 1, G, by go_num, by omega, by omega, HFk.out, HFW.out, HPR.out, HC4.out.trans HC5.out⟩
          case measure => simp [intOf]; omega
    · have hcond : ((t : Int) < (n1 : Int) ∧ ¬ (t : Int) < 80) ∨ ¬ (t : Int) < (n1 : Int) := by
        by_cases h : (t : Int) < (n1 : Int)
        · exact .inl ⟨h, by omega⟩
        · exact .inr h
      clear hgo hF hFW hPR hc
      rcases hcond with ⟨h1, h2⟩ | h1
      all_goals
        go_wp2_with fail
        with_reducible refine (HKn.out _).mono ?_
        rintro e w6 ⟨rfl, hc6⟩
        have HZ := Lib.hid (HC.out.trans hc6)
        clear hc6
        go_wp2_with fail
        go_ret
        exact ⟨rfl, HZ.out⟩
end Go.Proofs.Ytlffcccicpdnfaa

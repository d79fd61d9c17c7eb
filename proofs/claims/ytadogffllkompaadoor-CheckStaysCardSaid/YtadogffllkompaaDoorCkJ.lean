/-
  The program's Check: its three looks, and the whole.
-/
import Derived.WalkMore
import Derived.Laws.EntriesVeiled
import Derived.Test.YtadogffllkompaaDoorCkI
namespace Go.Proofs.YtadogffllkompaaDoor
open Go.RowKit Go.BigFrame

attribute [local go_sem] Oper.semAt_some

theorem look1_any {n cap b off Bp : Nat} {L : List I5} {sl : Bool} (k : Nat) (hL : L.length = n) (hk : k < n) (hfit : Fit (ia L k)) {w : World} (hI : ∀ i (hi : i < L.length), FiveO w b (off + i * 5) L[i]) (hP : Two w Bp (.slice (some ⟨b, off, none⟩) n cap) (.bool sl)) :
    Calls Tryd.prog 32 #[.int .i64 (k : Int), .pointer (some ⟨Bp, 0, none⟩)] w fun e w' => e = .returned (.int .i64 (lk L sl 0 k)) ∧ Ch [] w w' := by
  obtain ⟨c0, c1, c2, c3, c4⟩ := InsAt.at hI (k := k) (by omega)
  have hkn : (k : Int) < (n : Int) := by omega
  have p0 := hP.c0
  have HC := Lib.hid (fun w => check_any hfit w)
  unfold lk
  rw [if_pos rfl]
  clear hfit hI hP
  unfold iv at HC
  generalize chk (ia L k) = r at *
  generalize ia L k = x at *
  obtain ⟨op, d, s, o, i⟩ := x
  simp only at *
  go_enter Tryd.func32, Tryd.ntmps32
  go_wp2_with (first
    | (with_reducible refine (HC.out _).mono ?_; rintro e w' ⟨rfl, hc⟩)
    | fail)
  go_ret
  exact ⟨rfl, hc⟩
theorem look2_any {n cap b off Bp : Nat} {L : List I5} {sl : Bool} (k : Nat) (hL : L.length = n) (hn : n ≤ 1000) (hk : k < n) (hfit : Fit (ia L k)) {w : World} (hI : ∀ i (hi : i < L.length), FiveO w b (off + i * 5) L[i]) (hT : Tb w) (hP : Two w Bp (.slice (some ⟨b, off, none⟩) n cap) (.bool sl)) :
    Calls Tryd.prog 34 #[.int .i64 (k : Int), .pointer (some ⟨Bp, 0, none⟩)] w fun e w' => e = .returned (.int .i64 (lk L sl 1 k)) ∧ Ch [] w w' := by
  have p0 := hP.c0
  have p1 := hP.c1
  have HW := Lib.hid (wrong_any (cap := cap) sl k hL hn hk hfit hI hT)
  unfold lk
  rw [if_neg (by decide), if_pos rfl, hL]
  clear hfit hI hP hT
  generalize wrg n sl (ia L k) k = r at *
  go_enter Tryd.func34, Tryd.ntmps34
  go_wp2_with (first
    | (with_reducible refine HW.out.mono ?_; rintro e w' ⟨rfl, hc⟩)
    | fail)
  go_ret
  exact ⟨rfl, hc⟩
theorem look3_any {Bm M : Nat} {L : List I5} {sl : Bool} (k : Nat) (hM : RM L M) {w : World} (hm : w.cell? ⟨Bm, 0, none⟩ = some (.int .u64 (M : Int))) :
    Calls Tryd.prog 36 #[.int .i64 (k : Int), .pointer (some ⟨Bm, 0, none⟩)] w fun e w' => e = .returned (.int .i64 (lk L sl 2 k)) ∧ Ch [] w w' := by
  have HH := Mk.has_any M (k : Int) hM.1 w
  rw [rb_mask hM] at HH
  have HH := Lib.hid HH
  unfold lk
  rw [if_neg (by decide), if_neg (by decide)]
  clear hM
  obtain ⟨r, hr⟩ : ∃ r, rb L k = r := ⟨_, rfl⟩
  rw [hr] at HH ⊢
  clear hr
  cases r
  all_goals
    go_enter Tryd.func36, Tryd.ntmps36
    go_wp2_with (first
      | (with_reducible refine HH.out.mono ?_; rintro e w' ⟨rfl, rfl⟩)
      | fail)
    go_ret
    exact ⟨rfl, Ch.refl _ _⟩

theorem check_long {n cap : Nat} {a : Option Addr} {L : List I5} {sl : Bool} (hL : L.length = n) (h : n < 1 ∨ 64 < n) (w : World) :
    Calls Tryd.prog 20 #[.agg #[.slice a n cap, .bool sl]] w fun e w' => e = .returned (.tuple #[.int .i64 (((res L sl).1 : Nat) : Int), .int .i64 (res L sl).2]) ∧ Ch [] w w' := by
  have hr := res_long (L := L) (sl := sl) (by rw [hL]; exact h)
  rw [hr]
  have HC := Lib.hid ((Ch.refl [] w).alloc (.cells #[.slice a n cap, .bool sl] 48))
  clear hL hr
  by_cases h1 : n < 1
  · have h1' : (n : Int) < 1 := by omega
    go_enter Tryd.func20, Tryd.ntmps20
    go_wp2_with fail
    go_step3
    go_wp2_with fail
    try rw [Exit.noGoto_ret]
    go_ret2
    exact ⟨rfl, HC.out⟩
  · have h1' : ¬ (n : Int) < 1 := by omega
    have h2' : (64 : Int) < (n : Int) := by omega
    go_enter Tryd.func20, Tryd.ntmps20
    go_wp2_with fail
    go_step3
    go_wp2_with fail
    try rw [Exit.noGoto_ret]
    go_ret2
    exact ⟨rfl, HC.out⟩

set_option maxRecDepth 10000 in
set_option maxHeartbeats 8000000 in
theorem check_body {n cap b off : Nat} {L : List I5} {sl : Bool} (hL : L.length = n) (h0 : 1 ≤ n) (hn : n ≤ 64) (hfit : ∀ x ∈ L, Fit x) {w : World} (hI : ∀ i (hi : i < L.length), FiveO w b (off + i * 5) L[i]) (hT : Tb w) :
    Calls Tryd.prog 20 #[.agg #[.slice (some ⟨b, off, none⟩) n cap, .bool sl]] w fun e w' => e = .returned (.tuple #[.int .i64 (((res L sl).1 : Nat) : Int), .int .i64 (res L sl).2]) ∧ Ch [] w w' := by
  obtain ⟨r, hr⟩ : ∃ r, r = res L sl := ⟨_, rfl⟩
  rw [← hr]
  have HRs := Lib.hid hr
  have HT := Lib.hid hT
  have HI := Lib.hid hI
  have HP := Lib.hid (Two.new w (.slice (some ⟨b, off, none⟩) n cap) (.bool sl) 48)
  have HC := Lib.hid ((Ch.refl [] w).alloc (.cells #[.slice (some ⟨b, off, none⟩) n cap, .bool sl] 48))
  obtain ⟨w0, hw0⟩ : ∃ w0, w.alloc (.cells #[.slice (some ⟨b, off, none⟩) n cap, .bool sl] 48) = w0 := ⟨_, rfl⟩
  have HW0 := Lib.hid hw0
  rw [hw0] at HP HC
  have HRe := Lib.hid (reached_any (cap := cap) hL (by omega) hfit w0 (.inr ⟨b, off, rfl, fun i hi => (hI i hi).ch HC.out (by simp)⟩) ((hT.ch HC.out).tab))
  have hmf : ∀ (fn : Fn) (first cap : Array Value) (w : World), (Instr.makeFunc fn first cap).run Tryd.prog w = .ok (.func fn first cap) w := fun _ _ _ _ => rfl
  have h1' : ¬ (n : Int) < 1 := by omega
  have h2' : ¬ (64 : Int) < (n : Int) := by omega
  clear hr hT hI hw0
  go_enter Tryd.func20, Tryd.ntmps20
  go_wp2_with fail
  go_step3
  go_wp2_with fail
  rw [HW0.out]
  with_reducible refine HRe.out.mono ?_
  rintro e w1 ⟨M, hM, rfl, hc1⟩
  have HM := Lib.hid hM
  have HC1 := Lib.hid (HC.out.trans hc1)
  have HP1 := Lib.hid (And.intro ((hc1.cell (p := ⟨w.heap.size, 0, none⟩) (cell_lt HP.out.c0) (by simp)).trans HP.out.c0) ((hc1.cell (p := ⟨w.heap.size, 1, none⟩) (cell_lt HP.out.c1) (by simp)).trans HP.out.c1))
  clear hM hc1 HRe HP
  go_wp2_with fail
  -- FROM THE LABEL ON
  obtain ⟨w2, hw2⟩ : ∃ w2, (w1.alloc (.cells #[.int .u64 (M : Int)] 37)).alloc (.cells #[.func (.func 32) #[] #[.pointer (some ⟨w.heap.size, 0, none⟩)], .func (.func 34) #[] #[.pointer (some ⟨w.heap.size, 0, none⟩)], .func (.func 36) #[] #[.pointer (some ⟨w1.heap.size, 0, none⟩)]] 70) = w2 := ⟨_, rfl⟩
  have hc2 : Ch [] w1 w2 := by rw [← hw2]; exact ((Ch.refl [] w1).alloc _).alloc _
  have l0 : w2.cell? ⟨w1.heap.size + 1, 0, none⟩ = some (.func (.func 32) #[] #[.pointer (some ⟨w.heap.size, 0, none⟩)]) := by rw [← hw2, World.cell?_alloc_at _ _ _ _ (by simp)]; rfl
  have l1 : w2.cell? ⟨w1.heap.size + 1, 1, none⟩ = some (.func (.func 34) #[] #[.pointer (some ⟨w.heap.size, 0, none⟩)]) := by rw [← hw2, World.cell?_alloc_at _ _ _ _ (by simp)]; rfl
  have l2 : w2.cell? ⟨w1.heap.size + 1, 2, none⟩ = some (.func (.func 36) #[] #[.pointer (some ⟨w1.heap.size, 0, none⟩)]) := by rw [← hw2, World.cell?_alloc_at _ _ _ _ (by simp)]; rfl
  have hm2 : w2.cell? ⟨w1.heap.size, 0, none⟩ = some (.int .u64 (M : Int)) := by rw [← hw2, World.cell?_alloc_past _ _ _ (by simp), World.cell?_alloc_at _ _ _ _ rfl]; rfl
  have HM2 := Lib.hid hm2
  have HC2 := Lib.hid (HC1.out.trans hc2)
  have HP2 := Lib.hid (And.intro ((hc2.cell (p := ⟨w.heap.size, 0, none⟩) (cell_lt HP1.out.1) (by simp)).trans HP1.out.1) ((hc2.cell (p := ⟨w.heap.size, 1, none⟩) (cell_lt HP1.out.2) (by simp)).trans HP1.out.2))
  rw [hw2]
  clear hw2 hc2 hm2 HP1 HC1
  have hx0 : ∀ W, (Instr.index 70 (.agg #[.func (.func 32) #[] #[.pointer (some ⟨w.heap.size, 0, none⟩)], .func (.func 34) #[] #[.pointer (some ⟨w.heap.size, 0, none⟩)], .func (.func 36) #[] #[.pointer (some ⟨w1.heap.size, 0, none⟩)]]) (.int .i64 0)).run Tryd.prog W = .ok (.func (.func 32) #[] #[.pointer (some ⟨w.heap.size, 0, none⟩)]) W := fun _ => rfl
  have hx1 : ∀ W, (Instr.index 70 (.agg #[.func (.func 32) #[] #[.pointer (some ⟨w.heap.size, 0, none⟩)], .func (.func 34) #[] #[.pointer (some ⟨w.heap.size, 0, none⟩)], .func (.func 36) #[] #[.pointer (some ⟨w1.heap.size, 0, none⟩)]]) (.int .i64 1)).run Tryd.prog W = .ok (.func (.func 34) #[] #[.pointer (some ⟨w.heap.size, 0, none⟩)]) W := fun _ => rfl
  have hx2 : ∀ W, (Instr.index 70 (.agg #[.func (.func 32) #[] #[.pointer (some ⟨w.heap.size, 0, none⟩)], .func (.func 34) #[] #[.pointer (some ⟨w.heap.size, 0, none⟩)], .func (.func 36) #[] #[.pointer (some ⟨w1.heap.size, 0, none⟩)]]) (.int .i64 2)).run Tryd.prog W = .ok (.func (.func 36) #[] #[.pointer (some ⟨w1.heap.size, 0, none⟩)]) W := fun _ => rfl
  have HTw := Lib.hid (fun (W : World) (h : Ch [] w2 W) => And.intro (show Two W w.heap.size (.slice (some ⟨b, off, none⟩) n cap) (.bool sl) from ⟨(h.cell (p := ⟨w.heap.size, 0, none⟩) (cell_lt HP2.out.1) (by simp)).trans HP2.out.1, (h.cell (p := ⟨w.heap.size, 1, none⟩) (cell_lt HP2.out.2) (by simp)).trans HP2.out.2⟩) (show ∀ i (hi : i < L.length), FiveO W b (off + i * 5) L[i] from fun i hi => (HI.out i hi).ch (HC2.out.trans h) (by simp)))
  have HMw := Lib.hid (fun (W : World) (h : Ch [] w2 W) => (h.cell (p := ⟨w1.heap.size, 0, none⟩) (cell_lt HM2.out) (by simp)).trans HM2.out)
  have HL0 := Lib.hid (fun (k : Nat) (hk : k < n) (W : World) (h : Ch [] w2 W) => look1_any (cap := cap) (sl := sl) k hL hk (by rw [← ia_at (by omega)]; exact hfit _ (List.getElem_mem _)) (HTw.out W h).2 (HTw.out W h).1)
  have HL1 := Lib.hid (fun (k : Nat) (hk : k < n) (W : World) (h : Ch [] w2 W) => look2_any (cap := cap) (sl := sl) k hL (by omega) hk (by rw [← ia_at (by omega)]; exact hfit _ (List.getElem_mem _)) (HTw.out W h).2 (HT.out.ch (HC2.out.trans h)) (HTw.out W h).1)
  have HL2 := Lib.hid (fun (k : Nat) (W : World) (h : Ch [] w2 W) => look3_any (L := L) (sl := sl) k HM.out (HMw.out W h))
  have HLen := Lib.hid hL
  have HOk := Lib.hid (show (∀ j, j < 3 → ∀ c, c < n → lk L sl j c = 0) → res L sl = (0, 0) from fun h => res_ok (by rw [hL]; omega) (by rw [hL]; exact h))
  have HAt := Lib.hid (fun (j k : Nat) (hj : j < 3) (hk : k < n) (hz : lk L sl j k ≠ 0) (hl : ∀ c, c < k → lk L sl j c = 0) (hq : ∀ i, i < j → ∀ c, c < n → lk L sl i c = 0) => res_at (L := L) (sl := sl) (by rw [hL]; omega) hj (by rw [hL]; exact hk) hz hl (by rw [hL]; exact hq))
  clear hL hfit h1' h2' HM hmf
  go_step3
  go_wp2_with fail
  clear l0 l1 l2
  go_loopw [6, 7, 29] (fun p e i wr => ∃ (j : Nat) (z : Int), z = (j : Int) ∧ j ≤ 3 ∧ i = .int .i64 z ∧ p = .int .i64 0 ∧ e = .int .i64 0 ∧ Ch [] w2 wr ∧ ∀ i, i < j → ∀ c, c < n → lk L sl i c = 0) (fun _ _ i _ => 3 - (intOf i).toNat)
  case atStart => exact ⟨0, 0, rfl, by omega, rfl, rfl, rfl, Ch.refl _ _, fun i h => absurd h (by omega)⟩
  case round =>
    obtain ⟨j, z, hjz, hj, rfl, rfl, rfl, hc, hq⟩ := hrel
    have HQ := Lib.hid hq
    have HC := Lib.hid hc
    have hp := (HTw.out _ hc).1.c0
    clear hc hq
    obtain rfl | rfl | rfl | rfl : j = 0 ∨ j = 1 ∨ j = 2 ∨ j = 3 := by omega
    · obtain rfl : z = 0 := by simpa using hjz
      clear hjz
      go_wp2_with fail
      go_loopw [6, 7, 35] (fun p e i wr => ∃ k : Nat, k ≤ n ∧ i = .int .i64 (k : Int) ∧ p = .int .i64 0 ∧ e = .int .i64 0 ∧ Ch [] w2 wr ∧ ∀ c, c < k → lk L sl 0 c = 0) (fun _ _ i _ => n - (intOf i).toNat)
      case atStart => exact ⟨0, by omega, rfl, rfl, rfl, HC.out, fun c h => absurd h (by omega)⟩
      case round =>
        obtain ⟨k, hk, rfl, rfl, rfl, hck, hz⟩ := hrel
        have HZ := Lib.hid hz
        have HCk := Lib.hid hck
        clear hck hz
        by_cases hk2 : k < n
        · have hk2' : (k : Int) < (n : Int) := by omega
          have HCa := Lib.hid (HL0.out k hk2 _ HCk.out)
          have HV := Lib.hid (show lk L sl 0 k = 0 → ∀ c, c < k + 1 → lk L sl 0 c = 0 from fun h c hc => by
            by_cases e : c = k
            · rw [e]; exact h
            · exact HZ.out c (by omega))
          have HW := Lib.hid (show lk L sl 0 k ≠ 0 → res L sl = (k, lk L sl 0 k) from fun h => HAt.out 0 k (by omega) hk2 h HZ.out HQ.out)
          by_cases hv : lk L sl 0 k = 0
          · have HV := Lib.hid (HV.out hv)
            rw [hv] at HCa
            clear hv hk2
            go_wp2_with (first
              | (with_reducible refine HCa.out.mono ?_; rintro e w9 ⟨rfl, hc9⟩; have HC9 := Lib.hid (HCk.out.trans hc9); clear hc9)
              | fail)
            go_roundw
            case rel => exact ⟨k + 1, by omega, by go_num, rfl, rfl, HC9.out, HV.out⟩
            case measure => simp [intOf]; omega
          · have HW := Lib.hid (HW.out hv)
            generalize lk L sl 0 k = v at *
            have hvb : (v != 0) = true := by simpa using hv
            clear hv hk2
            go_wp2_with (first
              | (with_reducible refine HCa.out.mono ?_; rintro e w9 ⟨rfl, hc9⟩; have HC9 := Lib.hid (HC2.out.trans (HCk.out.trans hc9)); clear hc9)
              | fail)
            try rw [Exit.noGoto_ret]
            go_ret2
            exact ⟨by rw [HRs.out, HW.out]; rfl, HC9.out⟩
        · have HE := Lib.hid (show ∀ i, i < 0 + 1 → ∀ c, c < n → lk L sl i c = 0 from fun i hi c hc => by
            by_cases e : i = 0
            · rw [e]; exact HZ.out c (by omega)
            · exact HQ.out i (by omega) c hc)
          have hk2' : ¬ (k : Int) < (n : Int) := by omega
          clear hk2
          go_wp2_with fail
          go_roundw
          case rel => exact ⟨0 + 1, _, by go_num, by omega, rfl, rfl, rfl, HCk.out, HE.out⟩
          case measure => simp [intOf]
    · obtain rfl : z = 1 := by simpa using hjz
      clear hjz
      go_wp2_with fail
      go_loopw [6, 7, 35] (fun p e i wr => ∃ k : Nat, k ≤ n ∧ i = .int .i64 (k : Int) ∧ p = .int .i64 0 ∧ e = .int .i64 0 ∧ Ch [] w2 wr ∧ ∀ c, c < k → lk L sl 1 c = 0) (fun _ _ i _ => n - (intOf i).toNat)
      case atStart => exact ⟨0, by omega, rfl, rfl, rfl, HC.out, fun c h => absurd h (by omega)⟩
      case round =>
        obtain ⟨k, hk, rfl, rfl, rfl, hck, hz⟩ := hrel
        have HZ := Lib.hid hz
        have HCk := Lib.hid hck
        clear hck hz
        by_cases hk2 : k < n
        · have hk2' : (k : Int) < (n : Int) := by omega
          have HCa := Lib.hid (HL1.out k hk2 _ HCk.out)
          have HV := Lib.hid (show lk L sl 1 k = 0 → ∀ c, c < k + 1 → lk L sl 1 c = 0 from fun h c hc => by
            by_cases e : c = k
            · rw [e]; exact h
            · exact HZ.out c (by omega))
          have HW := Lib.hid (show lk L sl 1 k ≠ 0 → res L sl = (k, lk L sl 1 k) from fun h => HAt.out 1 k (by omega) hk2 h HZ.out HQ.out)
          by_cases hv : lk L sl 1 k = 0
          · have HV := Lib.hid (HV.out hv)
            rw [hv] at HCa
            clear hv hk2
            go_wp2_with (first
              | (with_reducible refine HCa.out.mono ?_; rintro e w9 ⟨rfl, hc9⟩; have HC9 := Lib.hid (HCk.out.trans hc9); clear hc9)
              | fail)
            go_roundw
            case rel => exact ⟨k + 1, by omega, by go_num, rfl, rfl, HC9.out, HV.out⟩
            case measure => simp [intOf]; omega
          · have HW := Lib.hid (HW.out hv)
            generalize lk L sl 1 k = v at *
            have hvb : (v != 0) = true := by simpa using hv
            clear hv hk2
            go_wp2_with (first
              | (with_reducible refine HCa.out.mono ?_; rintro e w9 ⟨rfl, hc9⟩; have HC9 := Lib.hid (HC2.out.trans (HCk.out.trans hc9)); clear hc9)
              | fail)
            try rw [Exit.noGoto_ret]
            go_ret2
            exact ⟨by rw [HRs.out, HW.out]; rfl, HC9.out⟩
        · have HE := Lib.hid (show ∀ i, i < 1 + 1 → ∀ c, c < n → lk L sl i c = 0 from fun i hi c hc => by
            by_cases e : i = 1
            · rw [e]; exact HZ.out c (by omega)
            · exact HQ.out i (by omega) c hc)
          have hk2' : ¬ (k : Int) < (n : Int) := by omega
          clear hk2
          go_wp2_with fail
          go_roundw
          case rel => exact ⟨1 + 1, _, by go_num, by omega, rfl, rfl, rfl, HCk.out, HE.out⟩
          case measure => simp [intOf]
    · obtain rfl : z = 2 := by simpa using hjz
      clear hjz
      go_wp2_with fail
      go_loopw [6, 7, 35] (fun p e i wr => ∃ k : Nat, k ≤ n ∧ i = .int .i64 (k : Int) ∧ p = .int .i64 0 ∧ e = .int .i64 0 ∧ Ch [] w2 wr ∧ ∀ c, c < k → lk L sl 2 c = 0) (fun _ _ i _ => n - (intOf i).toNat)
      case atStart => exact ⟨0, by omega, rfl, rfl, rfl, HC.out, fun c h => absurd h (by omega)⟩
      case round =>
        obtain ⟨k, hk, rfl, rfl, rfl, hck, hz⟩ := hrel
        have HZ := Lib.hid hz
        have HCk := Lib.hid hck
        clear hck hz
        by_cases hk2 : k < n
        · have hk2' : (k : Int) < (n : Int) := by omega
          have HCa := Lib.hid (HL2.out k _ HCk.out)
          have HV := Lib.hid (show lk L sl 2 k = 0 → ∀ c, c < k + 1 → lk L sl 2 c = 0 from fun h c hc => by
            by_cases e : c = k
            · rw [e]; exact h
            · exact HZ.out c (by omega))
          have HW := Lib.hid (show lk L sl 2 k ≠ 0 → res L sl = (k, lk L sl 2 k) from fun h => HAt.out 2 k (by omega) hk2 h HZ.out HQ.out)
          by_cases hv : lk L sl 2 k = 0
          · have HV := Lib.hid (HV.out hv)
            rw [hv] at HCa
            clear hv hk2
            go_wp2_with (first
              | (with_reducible refine HCa.out.mono ?_; rintro e w9 ⟨rfl, hc9⟩; have HC9 := Lib.hid (HCk.out.trans hc9); clear hc9)
              | fail)
            go_roundw
            case rel => exact ⟨k + 1, by omega, by go_num, rfl, rfl, HC9.out, HV.out⟩
            case measure => simp [intOf]; omega
          · have HW := Lib.hid (HW.out hv)
            generalize lk L sl 2 k = v at *
            have hvb : (v != 0) = true := by simpa using hv
            clear hv hk2
            go_wp2_with (first
              | (with_reducible refine HCa.out.mono ?_; rintro e w9 ⟨rfl, hc9⟩; have HC9 := Lib.hid (HC2.out.trans (HCk.out.trans hc9)); clear hc9)
              | fail)
            try rw [Exit.noGoto_ret]
            go_ret2
            exact ⟨by rw [HRs.out, HW.out]; rfl, HC9.out⟩
        · have HE := Lib.hid (show ∀ i, i < 2 + 1 → ∀ c, c < n → lk L sl i c = 0 from fun i hi c hc => by
            by_cases e : i = 2
            · rw [e]; exact HZ.out c (by omega)
            · exact HQ.out i (by omega) c hc)
          have hk2' : ¬ (k : Int) < (n : Int) := by omega
          clear hk2
          go_wp2_with fail
          go_roundw
          case rel => exact ⟨2 + 1, _, by go_num, by omega, rfl, rfl, rfl, HCk.out, HE.out⟩
          case measure => simp [intOf]
    · obtain rfl : z = 3 := by simpa using hjz
      clear hjz hj
      go_wp2_with fail
      try rw [Exit.noGoto_ret]
      go_ret2
      exact ⟨by rw [HRs.out, HOk.out (fun i hi c hc => HQ.out i (by omega) c hc)]; rfl, HC2.out.trans HC.out⟩
theorem pcheck_any {n cap : Nat} {a : Option Addr} {L : List I5} {sl : Bool} (hL : L.length = n) (hfit : ∀ x ∈ L, Fit x) {w : World} (hI : InsAt w a L) (hT : Tb w) :
    Calls Tryd.prog 20 #[.agg #[.slice a n cap, .bool sl]] w fun e w' => e = .returned (.tuple #[.int .i64 (((res L sl).1 : Nat) : Int), .int .i64 (res L sl).2]) ∧ Ch [] w w' := by
  by_cases h : n < 1 ∨ 64 < n
  · exact check_long hL h w
  · rcases hI with h0 | ⟨b, off, rfl, hc⟩
    · rw [h0] at hL; simp at hL; omega
    · exact check_body hL (by omega) (by omega) hfit hc hT
end Go.Proofs.YtadogffllkompaaDoor

/-
  Several texts in one: A map: Key, Load, Store, Linked, Free. · A map: words of a value; Free. · A map: Load, Store, Free. · A map: Free; nil maps' words.
-/
import Derived.Test.YtalhlopjaijhcaaGreatMgJ
namespace Go.Proofs.YtalhlopjaijhcaaGreat
open Go.RowKit

attribute [local go_sem] Oper.semAt_some

theorem setM_same (s : MS) (hd : Int × Int) : setM s hd (elM s hd) = s := by
  unfold setM elM
  rw [set_same]
section
variable {w : World} {b : Bk} {s : MS} {N : Nat} {tb : List (Ent (Int × Int))} {us : List Nat}
theorem XP.kept (h : XP w b s N tb us) {K : Nat} {v : Value} {t : TypeId} (hK : HB w K t #[v]) (he : b.Eh ≤ K) (h1 : t ≠ 170) (h2 : t ≠ 154) (h3 : t ≠ 135) (u : Value) : XP (w.setCell ⟨K, 0, none⟩ u) b s N tb us := h.other hK he h1 h2 h3 0 u

theorem key1_any {W : World} {B K : Nat} {x : El} {v : Int} (hB : HB W B 84 (aE.elC x)) (hK : HB W K 40 #[.int .u64 v]) :
    Calls Tryz.prog 56 #[.pointer (some ⟨B, 0, none⟩), .pointer (some ⟨K, 0, none⟩)] W fun e W' => e = .returned (.int .i64 0) ∧ W' = W.setCell ⟨K, 0, none⟩ (.int .u64 (x.k : Int)) := by
  have e0 := hB.c 0 rfl
  have k0 := hK.c 0 rfl
  have f0 := hK.f 0
  clear hB hK
  go_enter Tryz.func56, Tryz.ntmps56
  go_wp2
  go_ret
  exact ⟨rfl, rfl⟩

/-- What Key tells. -/
def keyM (s : MS) (hd : Int × Int) : Nat := if errM s hd = 0 then (elM s hd).k else 0
set_option maxHeartbeats 1000000 in
theorem key_any (h : XP w b s N tb us) (hd : Int × Int) :
    Calls Tryz.prog 23 #[mp b, hdV hd] w fun e w' => e = .returned (.tuple #[.int .u64 (keyM s hd : Int), .int .i64 (errM s hd)]) ∧ XP w' b s N tb us ∧ Xn b w w' := by
  obtain ⟨w1, hw1⟩ : ∃ w1, w1 = w.alloc (.cells #[.int .i64 hd.1, .int .i64 hd.2] 39) := ⟨_, rfl⟩
  obtain ⟨w2, hw2⟩ : ∃ w2, w2 = w1.alloc (.cells #[.int .u64 0] 40) := ⟨_, rfl⟩
  have s1 : w1.heap.size = w.heap.size + 1 := by rw [hw1]; simp
  have hc2 : Ch [] w w2 := by rw [hw2, hw1]; exact ((Ch.refl [] w).alloc _).alloc _
  have hK2 : HB w2 (w.heap.size + 1) 40 #[.int .u64 0] := by rw [hw2, ← s1]; exact HB.new w1 _ _
  have HH2 := Lib.hid (show HB w2 w.heap.size 39 #[.int .i64 hd.1, .int .i64 hd.2] by rw [hw2, hw1]; exact (HB.new w _ _).alloc _)
  have HEh := Lib.hid h.eh
  have HWith := Lib.hid (with_any (h.quiet hc2) hd 56 #[.pointer (some ⟨w.heap.size + 1, 0, none⟩)] 0 (elM s hd) (w.heap.size + 1) hK2.lt (fun W => HB W (w.heap.size + 1) 40 #[.int .u64 0]) (fun W => HB W (w.heap.size + 1) 40 #[.int .u64 ((elM s hd).k : Int)])
    (enters_of Tryz.func56 (by kernel_rfl) rfl) (fun W W' hb hc => hb.ch hc (by simp)) (fun W W' hb hc => hb.ch hc (by have l := h.lay; have := l.gr; have := l.rs; have := l.sr; have := l.re; have := h.eh; simp; omega)) hK2
    (fun W B hB he hK hp => by
      refine (key1_any hB hK).mono ?_
      rintro e W' ⟨rfl, rfl⟩
      have hne : w.heap.size + 1 ≠ B := fun e => by
        subst e
        have h1 := hK.symm.trans hB
        simp at h1
      exact ⟨rfl, hB.far (p := ⟨w.heap.size + 1, 0, none⟩) hne _, hp.kept hK (Nat.le_succ_of_le h.eh) (by decide) (by decide) (by decide) _, ((Xk.of (K := w.heap.size + 1) (Xn.of_ch (Ch.refl _ _))).set (p := ⟨w.heap.size + 1, 0, none⟩) rfl _).two, hK.set 0 _⟩))
  have HC2 := Lib.hid hc2
  have H2 := Lib.hid (h.quiet hc2)
  have HK2 := Lib.hid hK2
  have g0 := HH2.out.c 0 rfl
  have g1 := HH2.out.c 1 rfl
  obtain ⟨p, q⟩ := hd
  rw [hw2, hw1] at g0 g1
  have HW := Lib.hid (And.intro hw1 hw2)
  have hmf : ∀ (fn : Fn) (first cap : Array Value) (w : World), (Instr.makeFunc fn first cap).run Tryz.prog w = .ok (.func fn first cap) w := fun _ _ _ _ => rfl
  unfold keyM
  obtain ⟨Er, hEr⟩ : ∃ Er, Er = errM s (p, q) := ⟨_, rfl⟩
  obtain ⟨y, hy⟩ : ∃ y, y = (if errM s (p, q) = 0 then (elM s (p, q)).k else 0) := ⟨_, rfl⟩
  rw [← hy, ← hEr]
  have HE := Lib.hid (And.intro hEr hy)
  clear h hc2 hK2 s1 hw1 hw2 hEr hy
  go_enter Tryz.func23, Tryz.ntmps23
  go_wp2_with fail
  have e9 := HW.out.2
  rw [HW.out.1] at e9
  change w2 = (w.alloc (.cells #[.int .i64 p, .int .i64 q] _)).alloc _ at e9
  rw [← e9]
  clear e9 g0 g1
  with_reducible refine HWith.out.mono ?_
  rintro e w3 (⟨h1, rfl, hc⟩ | ⟨h1, rfl, hp, hx, hj⟩)
  · have hK3 := HK2.out.ch hc (by simp)
    have k0 := hK3.c 0 rfl
    have HE2 := Lib.hid (show y = 0 by rw [HE.out.2, if_neg h1])
    have HP3 := Lib.hid (H2.out.quiet hc)
    have HX3 := Lib.hid (Xn.of_ch (b := b) (HC2.out.trans hc))
    have he : errM s (p, q) = Er := HE.out.1.symm
    rw [he]
    clear hK3 hc h1 he
    go_wp2
    go_ret2
    exact ⟨by rw [HE2.out]; rfl, HP3.out, HX3.out⟩
  · have k0 : w3.cell? ⟨w.heap.size + 1, 0, none⟩ = some (.int .u64 ((elM s (p, q)).k : Int)) := hj.c 0 rfl
    have HE2 := Lib.hid (show y = (elM s (p, q)).k ∧ Er = 0 from ⟨by rw [HE.out.2, if_pos h1], by rw [HE.out.1, h1]⟩)
    rw [if_pos rfl, setM_same] at hp
    have HP3 := Lib.hid hp
    have HX3 := Lib.hid (Xk.fresh HC2.out hx (by omega))
    clear hj hp hx h1
    generalize (elM s (p, q)).k = z at *
    go_wp2
    go_ret2
    exact ⟨by rw [HE2.out.1, HE2.out.2]; rfl, HP3.out, HX3.out⟩

theorem key_nil (hd : Int × Int) (w : World) : Calls Tryz.prog 23 #[.pointer none, hdV hd] w fun e w' => e = .returned (.tuple #[.int .u64 0, .int .i64 6]) ∧ Ch [] w w' := by
  obtain ⟨w1, hw1⟩ : ∃ w1, w1 = w.alloc (.cells #[.int .i64 hd.1, .int .i64 hd.2] 39) := ⟨_, rfl⟩
  obtain ⟨w2, hw2⟩ : ∃ w2, w2 = w1.alloc (.cells #[.int .u64 0] 40) := ⟨_, rfl⟩
  have s1 : w1.heap.size = w.heap.size + 1 := by rw [hw1]; simp
  have hc2 : Ch [] w w2 := by rw [hw2, hw1]; exact ((Ch.refl [] w).alloc _).alloc _
  have HK2 := Lib.hid (show HB w2 (w.heap.size + 1) 40 #[.int .u64 0] by rw [hw2, ← s1]; exact HB.new w1 _ _)
  have HH2 := Lib.hid (show HB w2 w.heap.size 39 #[.int .i64 hd.1, .int .i64 hd.2] by rw [hw2, hw1]; exact (HB.new w _ _).alloc _)
  have HWith := Lib.hid (with_nil hd (.func (.func 56) #[] #[.pointer (some ⟨w.heap.size + 1, 0, none⟩)]) w2)
  have HC2 := Lib.hid hc2
  have g0 := HH2.out.c 0 rfl
  have g1 := HH2.out.c 1 rfl
  obtain ⟨p, q⟩ := hd
  rw [hw2, hw1] at g0 g1
  have HW := Lib.hid (And.intro hw1 hw2)
  have hmf : ∀ (fn : Fn) (first cap : Array Value) (w : World), (Instr.makeFunc fn first cap).run Tryz.prog w = .ok (.func fn first cap) w := fun _ _ _ _ => rfl
  clear hc2 s1 hw1 hw2
  go_enter Tryz.func23, Tryz.ntmps23
  go_wp2_with fail
  have e9 := HW.out.2
  rw [HW.out.1] at e9
  change w2 = (w.alloc (.cells #[.int .i64 p, .int .i64 q] _)).alloc _ at e9
  rw [← e9]
  clear e9 g0 g1
  with_reducible refine HWith.out.mono ?_
  rintro e w3 ⟨rfl, hc⟩
  have k0 : w3.cell? ⟨w.heap.size + 1, 0, none⟩ = some (.int .u64 0) := (HK2.out.ch hc (by simp)).c 0 rfl
  have HC3 := Lib.hid (HC2.out.trans hc)
  clear hc
  go_wp2
  go_ret2
  exact ⟨rfl, HC3.out⟩

set_option maxHeartbeats 1000000 in
theorem linked_any (h : XP w b s N tb us) (hd : Int × Int) :
    Calls Tryz.prog 24 #[mp b, hdV hd] w fun e w' => e = .returned (.bool (decide (errM s hd = 0 ∧ valE tb (elM s hd).k = some hd))) ∧ XP w' b s N tb us ∧ Xn b w w' := by
  obtain ⟨w1, hw1⟩ : ∃ w1, w1 = w.alloc (.cells #[.int .i64 hd.1, .int .i64 hd.2] 39) := ⟨_, rfl⟩
  have hc1 : Ch [] w w1 := by rw [hw1]; exact (Ch.refl [] w).alloc _
  have HH1 := Lib.hid (show HB w1 w.heap.size 39 #[.int .i64 hd.1, .int .i64 hd.2] by rw [hw1]; exact HB.new w _ _)
  have HKey := Lib.hid (key_any (h.quiet hc1) hd)
  have HEh := Lib.hid h.eh
  have HC1 := Lib.hid hc1
  have g0 := HH1.out.c 0 rfl
  have g1 := HH1.out.c 1 rfl
  obtain ⟨p, q⟩ := hd
  rw [hw1] at g0 g1
  have HW := Lib.hid hw1
  unfold keyM at HKey
  clear h hc1 hw1
  by_cases h0 : errM s (p, q) = 0
  · rw [h0, if_pos rfl] at HKey
    obtain ⟨k, hk⟩ : ∃ k, k = (elM s (p, q)).k := ⟨_, rfl⟩
    rw [← hk] at HKey ⊢
    obtain ⟨r, hr⟩ : ∃ r, r = decide (errM s (p, q) = 0 ∧ valE tb k = some (p, q)) := ⟨_, rfl⟩
    rw [← hr]
    have HR := Lib.hid (show r = decide (valE tb k = some (p, q)) by rw [hr, Bool.eq_iff_iff]; simp [h0])
    clear h0 hk hr
    go_enter Tryz.func24, Tryz.ntmps24
    go_wp2_with fail
    have e9 := HW.out
    change w1 = w.alloc (.cells #[.int .i64 p, .int .i64 q] _) at e9
    rw [← e9]
    clear e9 g0 g1
    with_reducible refine HKey.out.mono ?_
    rintro e w2 ⟨rfl, hp, hx⟩
    have HLk := look_any hp k
    have HP2 := Lib.hid hp
    have HX2 := Lib.hid ((Xn.of_ch HC1.out).trans hx)
    have HH2 := Lib.hid (hx.hb HH1.out HEh.out (by decide) (by decide))
    clear hp hx HKey
    unfold lookH lookE at HLk
    cases hv : valE tb k with
    | none =>
      rw [hv] at HLk HR
      have HLk := Lib.hid HLk
      clear hv
      go_wp2_with fail
      with_reducible refine HLk.out.mono ?_
      rintro e w3 ⟨rfl, hc⟩
      have HC3 := Lib.hid hc
      clear hc
      simp only [Option.isSome_none, Option.getD_none, Bool.false_eq_true, if_false]
      go_wp2
      go_ret
      exact ⟨by rw [HR.out]; rfl, HP2.out.quiet (HC3.out.alloc _), HX2.out.trans (Xn.of_ch (HC3.out.alloc _))⟩
    | some y =>
      rw [hv] at HLk HR
      have HLk := Lib.hid HLk
      clear hv
      obtain ⟨p', q'⟩ := y
      go_wp2_with fail
      with_reducible refine HLk.out.mono ?_
      rintro e w3 ⟨rfl, hc⟩
      simp only [Option.isSome_some, Option.getD_some, if_true]
      have hc4 : Ch [] w2 (w3.alloc (.cells #[.int .i64 p', .int .i64 q'] 39)) := hc.alloc _
      have HC4 := Lib.hid hc4
      have hH4 := HH2.out.ch hc4 (by simp)
      have hN4 := HB.new w3 39 #[.int .i64 p', .int .i64 q']
      have k0 := hH4.c 0 rfl
      have k1 := hH4.c 1 rfl
      have n0 := hN4.c 0 rfl
      have n1 := hN4.c 1 rfl
      obtain ⟨r2, hr2⟩ : ∃ r2, r2 = decide ((some (p', q') : Option (Int × Int)) = some (p, q)) := ⟨_, rfl⟩
      rw [← hr2] at HR
      have hpq : r2 = ((p' == p) && (q' == q)) := by rw [hr2, Bool.eq_iff_iff]; simp
      clear hc hc4 hH4 hN4 hr2
      by_cases e1 : p' = p
      · by_cases e2 : q' = q
        · have hd1 : (p' == p) = true := by simpa using e1
          have hd2 : (q' == q) = true := by simpa using e2
          rw [hd1, hd2] at hpq
          have HR2 := Lib.hid (show r = true by rw [HR.out, hpq]; rfl)
          clear e1 e2 hpq
          go_wp2
          go_ret
          exact ⟨by rw [HR2.out]; rfl, HP2.out.quiet HC4.out, HX2.out.trans (Xn.of_ch HC4.out)⟩
        · have hd1 : (p' == p) = true := by simpa using e1
          have hd2 : (q' == q) = false := by simpa using e2
          rw [hd1, hd2] at hpq
          have HR2 := Lib.hid (show r = false by rw [HR.out, hpq]; rfl)
          clear e1 e2 hpq
          go_wp2
          go_ret
          exact ⟨by rw [HR2.out]; rfl, HP2.out.quiet HC4.out, HX2.out.trans (Xn.of_ch HC4.out)⟩
      · have hd1 : (p' == p) = false := by simpa using e1
        rw [hd1] at hpq
        have HR2 := Lib.hid (show r = false by rw [HR.out, hpq]; rfl)
        clear e1 hpq
        go_wp2
        go_ret
        exact ⟨by rw [HR2.out]; rfl, HP2.out.quiet HC4.out, HX2.out.trans (Xn.of_ch HC4.out)⟩
  · rw [if_neg h0] at HKey
    obtain ⟨r, hr⟩ : ∃ r, r = decide (errM s (p, q) = 0 ∧ valE tb (elM s (p, q)).k = some (p, q)) := ⟨_, rfl⟩
    rw [← hr]
    have HR := Lib.hid (show r = false by rw [hr]; exact decide_eq_false (fun e => h0 e.1))
    obtain ⟨Er, hEr⟩ : ∃ Er, Er = errM s (p, q) := ⟨_, rfl⟩
    rw [← hEr] at HKey h0
    have hd : (Er != 0) = true := by simpa using h0
    clear h0 hr hEr
    go_enter Tryz.func24, Tryz.ntmps24
    go_wp2_with fail
    have e9 := HW.out
    change w1 = w.alloc (.cells #[.int .i64 p, .int .i64 q] _) at e9
    rw [← e9]
    clear e9 g0 g1
    with_reducible refine HKey.out.mono ?_
    rintro e w2 ⟨rfl, hp, hx⟩
    have HP2 := Lib.hid hp
    have HX2 := Lib.hid ((Xn.of_ch HC1.out).trans hx)
    clear hp hx HKey
    go_wp2
    go_ret
    exact ⟨by rw [HR.out]; rfl, HP2.out, HX2.out⟩
theorem linked_nil (hd : Int × Int) (w : World) : Calls Tryz.prog 24 #[.pointer none, hdV hd] w fun e w' => e = .returned (.bool false) ∧ Ch [] w w' := by
  obtain ⟨w1, hw1⟩ : ∃ w1, w1 = w.alloc (.cells #[.int .i64 hd.1, .int .i64 hd.2] 39) := ⟨_, rfl⟩
  have hc1 : Ch [] w w1 := by rw [hw1]; exact (Ch.refl [] w).alloc _
  have HH1 := Lib.hid (show HB w1 w.heap.size 39 #[.int .i64 hd.1, .int .i64 hd.2] by rw [hw1]; exact HB.new w _ _)
  have HKey := Lib.hid (key_nil hd w1)
  have HC1 := Lib.hid hc1
  have g0 := HH1.out.c 0 rfl
  have g1 := HH1.out.c 1 rfl
  obtain ⟨p, q⟩ := hd
  rw [hw1] at g0 g1
  have HW := Lib.hid hw1
  clear hc1 hw1
  go_enter Tryz.func24, Tryz.ntmps24
  go_wp2_with fail
  have e9 := HW.out
  change w1 = w.alloc (.cells #[.int .i64 p, .int .i64 q] _) at e9
  rw [← e9]
  clear e9 g0 g1
  with_reducible refine HKey.out.mono ?_
  rintro e w2 ⟨rfl, hc⟩
  have HC2 := Lib.hid (HC1.out.trans hc)
  clear hc
  go_wp2
  go_ret
  exact ⟨rfl, HC2.out⟩
end
end Go.Proofs.YtalhlopjaijhcaaGreat

namespace Go.Proofs.YtalhlopjaijhcaaGreat
open Go.RowKit

attribute [local go_sem] Oper.semAt_some

section
variable {w : World} {b : Bk} {s : MS} {N : Nat} {tb : List (Ent (Int × Int))} {us : List Nat}
/-- No word of a value. -/
def badAt (s : MS) (at' : Int) : Prop := at' < 0 ∨ (s.wd : Int) ≤ at'
instance (s : MS) (at' : Int) : Decidable (badAt s at') := by unfold badAt; infer_instance
/-- The closure's boxes. -/
structure WB (W : World) (b : Bk) (A M D : Nat) (at' : Int) (f : Value) : Prop where
  a : HB W A 3 #[.int .i64 at']
  m : HB W M 31 #[mp b]
  d : HB W D 121 #[f]
theorem WB.ch {W W' : World} {A M D : Nat} {at' : Int} {f : Value} (h : WB W b A M D at' f) {T : List Nat} (hc : Ch T W W') (h1 : A ∉ T) (h2 : M ∉ T) (h3 : D ∉ T) : WB W' b A M D at' f := ⟨h.a.ch hc h1, h.m.ch hc h2, h.d.ch hc h3⟩

set_option maxRecDepth 100000 in
set_option maxHeartbeats 4000000 in
theorem word1_bad {W : World} (h : XP W b s N tb us) {B A M D : Nat} {at' : Int} {f : Value} (hW : WB W b A M D at' f) (hb : badAt s at') :
    Calls Tryz.prog 96 #[.pointer (some ⟨B, 0, none⟩), .pointer (some ⟨A, 0, none⟩), .pointer (some ⟨M, 0, none⟩), .pointer (some ⟨D, 0, none⟩)] W fun e W' => e = .returned (.int .i64 1) ∧ Ch [] W W' := by
  have a0 := hW.a.c 0 rfl
  have m0 := hW.m.c 0 rfl
  have c2 := h.cells.2.2.1
  unfold badAt at hb
  obtain ⟨m, hm⟩ : ∃ m, m = s.wd := ⟨_, rfl⟩
  rw [← hm] at c2 hb
  clear h hW hm
  by_cases h1 : at' < 0
  · have hd1 : decide (at' < 0) = true := decide_eq_true h1
    clear hb
    go_enter Tryz.func96, Tryz.ntmps96
    go_wp2_with fail
    go_quiet (fail)
    go_wp2
    go_ret
    exact ⟨rfl, (Ch.refl [] W).drewN _⟩
  · have hd1 : decide (at' < 0) = false := decide_eq_false h1
    have h2 : (m : Int) ≤ at' := by omega
    have hd2 : decide ((m : Int) ≤ at') = true := decide_eq_true h2
    clear hb
    go_enter Tryz.func96, Tryz.ntmps96
    go_wp2_with fail
    go_quiet (fail)
    go_wp2
    go_ret
    exact ⟨rfl, (Ch.refl [] W).drewN _⟩
set_option maxRecDepth 100000 in
set_option maxHeartbeats 4000000 in
theorem word1_good {W : World} (h : XP W b s N tb us) (hwd : s.wd ≤ 4) {B A M D i fd : Nat} {dc : Array Value} (hW : WB W b A M D (i : Int) (.func (.func fd) #[] dc)) (hb : i < s.wd) (hFe : ∀ args W, (callFunc fd args).run Tryz.prog W = .ok (.enter fd args) W) {P : World → Prop}
    (hD : ∀ W1, Ch [] W W1 → Calls Tryz.prog fd (#[.pointer (some ⟨B, 1 + i, none⟩)] ++ dc) W1 fun e W' => e = .returned (.tuple #[]) ∧ P W')
    (hPk : ∀ W', P W' → W'.cell? ⟨A, 0, none⟩ = some (.int .i64 (i : Int)) ∧ W'.cell? ⟨D, 0, none⟩ = some (.func (.func fd) #[] dc)) :
    Calls Tryz.prog 96 #[.pointer (some ⟨B, 0, none⟩), .pointer (some ⟨A, 0, none⟩), .pointer (some ⟨M, 0, none⟩), .pointer (some ⟨D, 0, none⟩)] W fun e W' => e = .returned (.int .i64 0) ∧ P W' := by
  have a0 := hW.a.c 0 rfl
  have m0 := hW.m.c 0 rfl
  have d0 := hW.d.c 0 rfl
  have c2 := h.cells.2.2.1
  obtain ⟨m, hm⟩ : ∃ m, m = s.wd := ⟨_, rfl⟩
  rw [← hm] at c2 hb hwd
  have HD := Lib.hid hD
  have HPk := Lib.hid hPk
  clear h hW hm hD hPk
  have hd1 : decide ((i : Int) < 0) = false := by simp
  have hd2 : decide ((m : Int) ≤ (i : Int)) = false := by simp; omega
  have hd3 : ¬ m ≤ i := by omega
  have hb0 : (0 : Int) ≤ (i : Int) := by omega
  have hb1 : (i : Int) < 4 := by omega
  have ht : ((i : Int)).toNat = i := rfl
  go_enter Tryz.func96, Tryz.ntmps96
  go_wp2_with fail
  go_quiet (fail)
  obtain ⟨n1, hn1⟩ : ∃ n1, n1 = nq := ⟨_, rfl⟩
  rw [← hn1]
  go_wp2_with fail
  clear hn1
  have a1 : (W.drewN n1).drew.cell? ⟨A, 0, none⟩ = some (.int .i64 (i : Int)) := a0
  have d1 : (W.drewN n1).drew.cell? ⟨D, 0, none⟩ = some (.func (.func fd) #[] dc) := d0
  have HD1 := Lib.hid (HD.out (W.drewN (n1 + 1)) ((Ch.refl [] W).drewN _))
  refine wp_region_noPanic ?_
  refine wp_region_held_drew (S := fun w' => w'.cell? ⟨A, 0, none⟩ = some (.int .i64 (i : Int)) ∧ w'.cell? ⟨D, 0, none⟩ = some (.func (.func fd) #[] dc)) (by kernel_rfl) ⟨a1, d1⟩ (fun hHeld => ?_)
  refine wpAnyH_take (i := 0) (oi := { dst := some 16, op := _, type := _, pos := _, after := _, guard := _ }) (v := ?v1_0) rfl (by kernel_rfl) (by kernel_rfl) (by kernel_rfl) (by intro _ _ _ h; first | exact h | exact nomatch h.1) (.inl ⟨by rfl, ?h1_0⟩) (by assumption) ?_
  case h1_0 => intro w hSw; obtain ⟨hs0, hs1⟩ := hSw; go_simp; (try with_reducible rfl)
  try simp only [Act.put, List.setIfInBounds_toArray, List.set_cons_zero, List.set_cons_succ]
  refine wpAnyH_take (i := 1) (oi := { dst := some 17, op := _, type := _, pos := _, after := _, guard := _ }) (v := ?v2_1) rfl (by kernel_rfl) (by kernel_rfl) (by kernel_rfl) (by intro _ _ _ h; first | exact h | exact nomatch h.1) (.inl ⟨by rfl, ?h2_1⟩) (by assumption) ?_
  case h2_1 => intro w hSw; obtain ⟨hs0, hs1⟩ := hSw; go_simp; (try with_reducible rfl)
  try simp only [Act.put, List.setIfInBounds_toArray, List.set_cons_zero, List.set_cons_succ]
  refine wpAnyH_take (i := 2) (oi := { dst := some 18, op := _, type := _, pos := _, after := _, guard := _ }) (v := ?v3_2) rfl (by kernel_rfl) (by kernel_rfl) (by kernel_rfl) (by intro _ _ _ h; first | exact h | exact nomatch h.1) (.inl ⟨by rfl, ?h3_2⟩) (by assumption) ?_
  case h3_2 => intro w hSw; obtain ⟨hs0, hs1⟩ := hSw; go_simp; (try with_reducible rfl)
  try simp only [Act.put, List.setIfInBounds_toArray, List.set_cons_zero, List.set_cons_succ]
  refine wpAnyH_take (i := 3) (oi := { dst := some 19, op := _, type := _, pos := _, after := _, guard := _ }) (v := ?v4_3) rfl (by kernel_rfl) (by kernel_rfl) (by kernel_rfl) (by intro _ _ _ h; first | exact h | exact nomatch h.1) (.inl ⟨by rfl, ?h4_3⟩) (by assumption) ?_
  case h4_3 => intro w hSw; obtain ⟨hs0, hs1⟩ := hSw; go_simp; (try with_reducible rfl)
  try simp only [Act.put, List.setIfInBounds_toArray, List.set_cons_zero, List.set_cons_succ]
  refine wpAnyH_take (i := 4) (oi := { dst := some 20, op := _, type := _, pos := _, after := _, guard := _ }) (v := ?v5_4) rfl (by kernel_rfl) (by kernel_rfl) (by kernel_rfl) (by intro _ _ _ h; first | exact h | exact nomatch h.1) (.inl ⟨by rfl, ?h5_4⟩) (by assumption) ?_
  case h5_4 => intro w hSw; obtain ⟨hs0, hs1⟩ := hSw; go_simp; (try with_reducible rfl)
  try simp only [Act.put, List.setIfInBounds_toArray, List.set_cons_zero, List.set_cons_succ]
  refine wpAnyH_take (i := 5) (oi := { dst := some 21, op := _, type := _, pos := _, after := _, guard := _ }) (v := ?v6_5) rfl (by kernel_rfl) (by kernel_rfl) (by kernel_rfl) (by intro _ _ _ h; first | exact h | exact nomatch h.1) (.inl ⟨by rfl, ?h6_5⟩) (by assumption) ?_
  case h6_5 => intro w hSw; obtain ⟨hs0, hs1⟩ := hSw; go_simp; (try with_reducible rfl)
  try simp only [Act.put, List.setIfInBounds_toArray, List.set_cons_zero, List.set_cons_succ]
  clear a0 d0 a1 d1
  refine wpAnyH_ready (rs := [6]) (by kernel_rfl) (by simp) ?_
  refine AllReadyH.cons (o := { dst := some 22, op := _, type := _, pos := _, after := _, guard := _ }) rfl (fun K hK => ?_) AllReadyH.nil
  go_simp
  with_reducible refine HD1.out.mono ?_; rintro r w2 ⟨rfl, hp⟩; have HP := Lib.hid hp; clear hp
  refine hK.out _ _ (HPk.out _ HP.out) (fun hHeld => ?_)
  clear hK K
  try simp only [Act.put, List.setIfInBounds_toArray, List.set_cons_zero, List.set_cons_succ]
  refine wpAnyH_done (by kernel_rfl) ?_ _
  refine NoPanic.normal ?_
  go_wp2
  go_ret
  exact ⟨rfl, HP.out⟩

/-- No word of a value. -/
theorem word_bad (h : XP w b s N tb us) (hd : Int × Int) (at' : Int) (fd : Nat) (dc : Array Value) (hb : badAt s at') :
    Calls Tryz.prog 63 #[mp b, hdV hd, .int .i64 at', .func (.func fd) #[] dc] w fun e w' => e = .returned (.int .i64 (if errM s hd = 0 then 1 else errM s hd)) ∧ XP w' b s N tb us ∧ Xn b w w' := by
  have HEh := Lib.hid h.eh
  have HH := Lib.hid h
  obtain ⟨w1, hw1⟩ : ∃ w1, w1 = w.alloc (.cells #[mp b] 31) := ⟨_, rfl⟩
  obtain ⟨w2, hw2⟩ : ∃ w2, w2 = w1.alloc (.cells #[.int .i64 hd.1, .int .i64 hd.2] 39) := ⟨_, rfl⟩
  obtain ⟨w3, hw3⟩ : ∃ w3, w3 = w2.alloc (.cells #[.int .i64 at'] 3) := ⟨_, rfl⟩
  obtain ⟨w4, hw4⟩ : ∃ w4, w4 = w3.alloc (.cells #[.func (.func fd) #[] dc] 121) := ⟨_, rfl⟩
  have s1 : w1.heap.size = w.heap.size + 1 := by rw [hw1]; simp
  have s2 : w2.heap.size = w.heap.size + 1 + 1 := by rw [hw2]; simp [s1]
  have s3 : w3.heap.size = w.heap.size + 1 + 1 + 1 := by rw [hw3]; simp [s2]
  have s4 : w4.heap.size = w.heap.size + 4 := by rw [hw4]; simp [s3]
  have hc4 : Ch [] w w4 := by rw [hw4, hw3, hw2, hw1]; exact ((((Ch.refl [] w).alloc _).alloc _).alloc _).alloc _
  have hM4 : HB w4 w.heap.size 31 #[mp b] := by rw [hw4, hw3, hw2, hw1]; exact (((HB.new w _ _).alloc _).alloc _).alloc _
  have hH4 : HB w4 (w.heap.size + 1) 39 #[.int .i64 hd.1, .int .i64 hd.2] := by rw [hw4, hw3, hw2, ← s1]; exact ((HB.new w1 _ _).alloc _).alloc _
  have hA4 : HB w4 (w.heap.size + 1 + 1) 3 #[.int .i64 at'] := by rw [hw4, hw3, ← s2]; exact (HB.new w2 _ _).alloc _
  have hD4 : HB w4 (w.heap.size + 1 + 1 + 1) 121 #[.func (.func fd) #[] dc] := by rw [hw4, ← s3]; exact HB.new w3 _ _
  have hwb : WB w4 b (w.heap.size + 1 + 1) w.heap.size (w.heap.size + 1 + 1 + 1) at' (.func (.func fd) #[] dc) := ⟨hA4, hM4, hD4⟩
  have l := h.lay
  have hGa : b.Ga < b.Eh := by have := l.gr; have := l.rs; have := l.sr; have := l.re; omega
  have HWith := Lib.hid (with_any (h.quiet hc4) hd 96 #[.pointer (some ⟨w.heap.size + 1 + 1, 0, none⟩), .pointer (some ⟨w.heap.size, 0, none⟩), .pointer (some ⟨w.heap.size + 1 + 1 + 1, 0, none⟩)] 1 (elM s hd) w.heap.size (by omega) (fun W => WB W b (w.heap.size + 1 + 1) w.heap.size (w.heap.size + 1 + 1 + 1) at' (.func (.func fd) #[] dc)) (fun _ => True)
    (enters_of Tryz.func96 (by kernel_rfl) rfl) (fun W W' hb hc => hb.ch hc (by simp) (by simp) (by simp)) (fun _ _ _ _ => trivial) hwb
    (fun W B hB he hWB hp => (word1_bad hp hWB hb).mono (by
      rintro e W' ⟨rfl, hc⟩
      exact ⟨rfl, hB.ch hc (by simp), hp.quiet hc, (Xk.of (Xn.of_ch hc)).two, trivial⟩)))
  obtain ⟨R, hR⟩ : ∃ R, R = (if errM s hd = 0 then 1 else errM s hd) := ⟨_, rfl⟩
  rw [← hR]
  have HR := Lib.hid hR
  clear hR l hGa
  have HC4 := Lib.hid hc4
  have m0 := hM4.c 0 rfl
  have g0 := hH4.c 0 rfl
  have g1 := hH4.c 1 rfl
  obtain ⟨p, q⟩ := hd
  rw [hw4, hw3, hw2, hw1] at m0 g0 g1
  have HW := Lib.hid (And.intro hw1 (And.intro hw2 (And.intro hw3 hw4)))
  have hmf : ∀ (fn : Fn) (first cap : Array Value) (w : World), (Instr.makeFunc fn first cap).run Tryz.prog w = .ok (.func fn first cap) w := fun _ _ _ _ => rfl
  have HK := Lib.hid s4
  clear h hc4 hM4 hH4 hA4 hD4 hwb s1 s2 s3 s4 hw1 hw2 hw3 hw4
  go_enter Tryz.func63, Tryz.ntmps63
  go_wp2_with fail
  have e9 := HW.out.2.2.2
  rw [HW.out.2.2.1, HW.out.2.1, HW.out.1] at e9
  change w4 = (((w.alloc _).alloc (.cells #[.int .i64 p, .int .i64 q] _)).alloc _).alloc _ at e9
  rw [← e9]
  clear e9 m0 g0 g1
  with_reducible refine HWith.out.mono ?_
  rintro e w5 (⟨h1, rfl, hc⟩ | ⟨h1, rfl, hp, hx, -⟩)
  · have HR2 := Lib.hid (show R = errM s (p, q) by rw [HR.out, if_neg h1])
    have HC5 := Lib.hid (HC4.out.trans hc)
    clear h1 hc
    go_wp2
    go_ret
    exact ⟨by rw [HR2.out]; rfl, HH.out.quiet HC5.out, Xn.of_ch HC5.out⟩
  · have HR2 := Lib.hid (show R = 1 by rw [HR.out, if_pos h1])
    rw [if_neg (by decide)] at hp
    have HP5 := Lib.hid hp
    have HX5 := Lib.hid (Xk.fresh HC4.out hx (Nat.le_refl _))
    clear h1 hp hx
    go_wp2
    go_ret
    exact ⟨by rw [HR2.out]; rfl, HP5.out, HX5.out⟩
/-- What is so behind it. -/
def wordP (w : World) (b : Bk) (s : MS) (N : Nat) (tb : List (Ent (Int × Int))) (us : List Nat) (hd : Int × Int) (x' : El) (K : Nat) (J : World → Prop) (e : Ending) (w' : World) : Prop :=
  (errM s hd ≠ 0 ∧ e = .returned (.int .i64 (errM s hd)) ∧ Ch [] w w') ∨ (errM s hd = 0 ∧ e = .returned (.int .i64 0) ∧ XP w' b (setM s hd x') N tb us ∧ Xk b K w w' ∧ J w')
/-- Something is done with a word. -/
theorem word_good (h : XP w b s N tb us) (hwf : s.wd ≤ 4) (hd : Int × Int) (i fd : Nat) (dc : Array Value) (hi : i < s.wd) (x' : El) (K : Nat) (hK : K < w.heap.size) (_ : b.Eh ≤ K) (I J : World → Prop)
    (hFe : ∀ args W, (callFunc fd args).run Tryz.prog W = .ok (.enter fd args) W) (hI : ∀ W W', I W → Ch [] W W' → I W') (hJ : ∀ W W', J W → Ch [b.Ga] W W' → J W') (h0 : I w)
    (hD : ∀ W B, HB W B 84 (aE.elC (elM s hd)) → b.Eh ≤ B → I W → XP W b s N tb us → Calls Tryz.prog fd (#[.pointer (some ⟨B, 1 + i, none⟩)] ++ dc) W fun e W' => e = .returned (.tuple #[]) ∧ HB W' B 84 (aE.elC x') ∧ XP W' b s N tb us ∧ (∀ C t cs, HB W C t cs → C ≠ K → C ≠ B → HB W' C t cs) ∧ Xk2 b K B W W' ∧ J W') :
    Calls Tryz.prog 63 #[mp b, hdV hd, .int .i64 (i : Int), .func (.func fd) #[] dc] w (wordP w b s N tb us hd x' K J) := by
  obtain ⟨at', hat⟩ : ∃ z : Int, z = (i : Int) := ⟨_, rfl⟩
  rw [← hat]
  obtain ⟨w1, hw1⟩ : ∃ w1, w1 = w.alloc (.cells #[mp b] 31) := ⟨_, rfl⟩
  obtain ⟨w2, hw2⟩ : ∃ w2, w2 = w1.alloc (.cells #[.int .i64 hd.1, .int .i64 hd.2] 39) := ⟨_, rfl⟩
  obtain ⟨w3, hw3⟩ : ∃ w3, w3 = w2.alloc (.cells #[.int .i64 at'] 3) := ⟨_, rfl⟩
  obtain ⟨w4, hw4⟩ : ∃ w4, w4 = w3.alloc (.cells #[.func (.func fd) #[] dc] 121) := ⟨_, rfl⟩
  have s1 : w1.heap.size = w.heap.size + 1 := by rw [hw1]; simp
  have s2 : w2.heap.size = w.heap.size + 1 + 1 := by rw [hw2]; simp [s1]
  have s3 : w3.heap.size = w.heap.size + 1 + 1 + 1 := by rw [hw3]; simp [s2]
  have s4 : w4.heap.size = w.heap.size + 4 := by rw [hw4]; simp [s3]
  have hc4 : Ch [] w w4 := by rw [hw4, hw3, hw2, hw1]; exact ((((Ch.refl [] w).alloc _).alloc _).alloc _).alloc _
  have hM4 : HB w4 w.heap.size 31 #[mp b] := by rw [hw4, hw3, hw2, hw1]; exact (((HB.new w _ _).alloc _).alloc _).alloc _
  have hH4 : HB w4 (w.heap.size + 1) 39 #[.int .i64 hd.1, .int .i64 hd.2] := by rw [hw4, hw3, hw2, ← s1]; exact ((HB.new w1 _ _).alloc _).alloc _
  have hA4 : HB w4 (w.heap.size + 1 + 1) 3 #[.int .i64 at'] := by rw [hw4, hw3, ← s2]; exact (HB.new w2 _ _).alloc _
  have hD4 : HB w4 (w.heap.size + 1 + 1 + 1) 121 #[.func (.func fd) #[] dc] := by rw [hw4, ← s3]; exact HB.new w3 _ _
  have hwb : WB w4 b (w.heap.size + 1 + 1) w.heap.size (w.heap.size + 1 + 1 + 1) at' (.func (.func fd) #[] dc) := ⟨hA4, hM4, hD4⟩
  have HWith := Lib.hid (with_any (h.quiet hc4) hd 96 #[.pointer (some ⟨w.heap.size + 1 + 1, 0, none⟩), .pointer (some ⟨w.heap.size, 0, none⟩), .pointer (some ⟨w.heap.size + 1 + 1 + 1, 0, none⟩)] 0 x' K (by omega) (fun W => WB W b (w.heap.size + 1 + 1) w.heap.size (w.heap.size + 1 + 1 + 1) at' (.func (.func fd) #[] dc) ∧ I W) J
    (enters_of Tryz.func96 (by kernel_rfl) rfl) (fun W W' hb hc => ⟨hb.1.ch hc (by simp) (by simp) (by simp), hI _ _ hb.2 hc⟩) hJ ⟨hwb, hI _ _ h0 hc4⟩
    (fun W B hB he hWB hp => by
      have hwB := hWB.1
      rw [hat] at hwB
      have hneA : w.heap.size + 1 + 1 ≠ B := fun e => by subst e; have h1 := hwB.a.symm.trans hB; simp at h1
      have hneD : w.heap.size + 1 + 1 + 1 ≠ B := fun e => by subst e; have h1 := hwB.d.symm.trans hB; simp at h1
      refine (word1_good hp hwf hwB hi hFe (P := fun W' => HB W' B 84 (aE.elC x') ∧ XP W' b s N tb us ∧ (HB W' (w.heap.size + 1 + 1) 3 #[.int .i64 (i : Int)] ∧ HB W' (w.heap.size + 1 + 1 + 1) 121 #[.func (.func fd) #[] dc]) ∧ Xk2 b K B W W' ∧ J W') (fun W1 hW1 => ?_) (fun W' hP => ⟨hP.2.2.1.1.c 0 rfl, hP.2.2.1.2.c 0 rfl⟩)).mono ?_
      · refine (hD W1 B (hB.ch hW1 (by simp)) he (hI _ _ hWB.2 hW1) (hp.quiet hW1)).mono ?_
        rintro e W' ⟨rfl, g1, g2, g3, g4, g5⟩
        exact ⟨rfl, g1, g2, ⟨g3 _ _ _ (hwB.a.ch hW1 (by simp)) (by omega) hneA, g3 _ _ _ (hwB.d.ch hW1 (by simp)) (by omega) hneD⟩, Xk2.pre hW1 g4, g5⟩
      · rintro e W' ⟨rfl, g1, g2, g3, g4, g5⟩
        exact ⟨rfl, g1, g2, g4, g5⟩))
  clear hat hI hJ h0 hD hFe
  have HC4 := Lib.hid hc4
  have m0 := hM4.c 0 rfl
  have g0 := hH4.c 0 rfl
  have g1 := hH4.c 1 rfl
  obtain ⟨p, q⟩ := hd
  rw [hw4, hw3, hw2, hw1] at m0 g0 g1
  have HW := Lib.hid (And.intro hw1 (And.intro hw2 (And.intro hw3 hw4)))
  have hmf : ∀ (fn : Fn) (first cap : Array Value) (w : World), (Instr.makeFunc fn first cap).run Tryz.prog w = .ok (.func fn first cap) w := fun _ _ _ _ => rfl
  have HK := Lib.hid s4
  clear h hc4 hM4 hH4 hA4 hD4 hwb s1 s2 s3 s4 hw1 hw2 hw3 hw4
  go_enter Tryz.func63, Tryz.ntmps63
  go_wp2_with fail
  have e9 := HW.out.2.2.2
  rw [HW.out.2.2.1, HW.out.2.1, HW.out.1] at e9
  change w4 = (((w.alloc _).alloc (.cells #[.int .i64 p, .int .i64 q] _)).alloc _).alloc _ at e9
  rw [← e9]
  clear e9 m0 g0 g1
  with_reducible refine HWith.out.mono ?_
  rintro e w5 (⟨h1, rfl, hc⟩ | ⟨h1, rfl, hp, hx, hj⟩)
  · have HN := Lib.hid h1
    have HC5 := Lib.hid (HC4.out.trans hc)
    obtain ⟨Er, hEr⟩ : ∃ Er, Er = errM s (p, q) := ⟨_, rfl⟩
    rw [← hEr]
    have HE := Lib.hid hEr
    clear h1 hc hEr
    go_wp2
    go_ret
    exact .inl ⟨HN.out, by rw [← HE.out]; rfl, HC5.out⟩
  · rw [if_pos rfl] at hp
    have HN := Lib.hid h1
    have HP5 := Lib.hid hp
    have HX5 := Lib.hid ((Xk.of (Xn.of_ch HC4.out)).trans hx)
    have HJ5 := Lib.hid hj
    clear h1 hp hx hj
    go_wp2
    go_ret
    exact .inr ⟨HN.out, rfl, HP5.out, HX5.out, HJ5.out⟩
end
end Go.Proofs.YtalhlopjaijhcaaGreat

namespace Go.Proofs.YtalhlopjaijhcaaGreat
open Go.RowKit

attribute [local go_sem] Oper.semAt_some

theorem elC_at (x : El) {i : Nat} (hi : i < 4) : (aE.elC x)[1 + i]? = some (.int .u64 (x.v i : Int)) := by
  rcases (by omega : i = 0 ∨ i = 1 ∨ i = 2 ∨ i = 3) with rfl | rfl | rfl | rfl <;> rfl
theorem elC_upd (x : El) {i : Nat} (hi : i < 4) (u : Nat) : (aE.elC x).setIfInBounds (1 + i) (.int .u64 (u : Int)) = aE.elC ⟨x.k, updW x.v i u⟩ := by
  rcases (by omega : i = 0 ∨ i = 1 ∨ i = 2 ∨ i = 3) with rfl | rfl | rfl | rfl <;> rfl
theorem load1_any {W : World} {B K i : Nat} {x : El} {v : Int} (hi : i < 4) (hB : HB W B 84 (aE.elC x)) (hK : HB W K 40 #[.int .u64 v]) :
    Calls Tryz.prog 64 #[.pointer (some ⟨B, 1 + i, none⟩), .pointer (some ⟨K, 0, none⟩)] W fun e W' => e = .returned (.tuple #[]) ∧ W' = W.setCell ⟨K, 0, none⟩ (.int .u64 (x.v i : Int)) := by
  have e0 := hB.c (1 + i) (elC_at x hi)
  have k0 := hK.c 0 rfl
  have f0 := hK.f 0
  clear hB hK
  go_enter Tryz.func64, Tryz.ntmps64
  go_wp2
  go_end0
  exact ⟨rfl, rfl⟩
theorem store1_any {W : World} {B K i : Nat} {x : El} {v : Nat} (hi : i < 4) (hB : HB W B 84 (aE.elC x)) (hK : HB W K 40 #[.int .u64 (v : Int)]) :
    Calls Tryz.prog 65 #[.pointer (some ⟨B, 1 + i, none⟩), .pointer (some ⟨K, 0, none⟩)] W fun e W' => e = .returned (.tuple #[]) ∧ W' = W.setCell ⟨B, 1 + i, none⟩ (.int .u64 (v : Int)) := by
  have e0 := hB.c (1 + i) (elC_at x hi)
  have f0 := hB.f (1 + i)
  have k0 : W.cell? ⟨K, 0, none⟩ = some (.int .u64 (v : Int)) := hK.c 0 rfl
  clear hB hK
  go_enter Tryz.func65, Tryz.ntmps65
  go_wp2
  go_end0
  exact ⟨rfl, rfl⟩
section
variable {w : World} {b : Bk} {s : MS} {N : Nat} {tb : List (Ent (Int × Int))} {us : List Nat}
theorem setM_state (s : MS) (hd : Int × Int) (x : El) : (setM s hd x).kind = s.kind ∧ (setM s hd x).n = s.n ∧ (setM s hd x).wd = s.wd ∧ (setM s hd x).cl = s.cl := ⟨rfl, rfl, rfl, rfl⟩
set_option maxHeartbeats 1000000 in
theorem load_any (h : XP w b s N tb us) (hwf : s.wd ≤ 4) (hd : Int × Int) (at' : Int) :
    Calls Tryz.prog 29 #[mp b, hdV hd, .int .i64 at'] w fun e w' => e = .returned (.tuple #[.int .u64 ((loadM s hd at').1 : Int), .int .i64 (loadM s hd at').2]) ∧ XP w' b s N tb us ∧ Xn b w w' := by
  obtain ⟨U, hU⟩ : ∃ U : Int, U = 0 := ⟨_, rfl⟩
  obtain ⟨w1, hw1⟩ : ∃ w1, w1 = w.alloc (.cells #[.int .i64 hd.1, .int .i64 hd.2] 39) := ⟨_, rfl⟩
  obtain ⟨w2, hw2⟩ : ∃ w2, w2 = w1.alloc (.cells #[.int .u64 U] 40) := ⟨_, rfl⟩
  have s1 : w1.heap.size = w.heap.size + 1 := by rw [hw1]; simp
  have hc2 : Ch [] w w2 := by rw [hw2, hw1]; exact ((Ch.refl [] w).alloc _).alloc _
  have hK2 : HB w2 (w.heap.size + 1) 40 #[.int .u64 U] := by rw [hw2, ← s1]; exact HB.new w1 _ _
  have hH2 : HB w2 w.heap.size 39 #[.int .i64 hd.1, .int .i64 hd.2] := by rw [hw2, hw1]; exact (HB.new w _ _).alloc _
  obtain ⟨r1, hr1⟩ : ∃ r, r = (loadM s hd at').1 := ⟨_, rfl⟩
  obtain ⟨r2, hr2⟩ : ∃ r, r = (loadM s hd at').2 := ⟨_, rfl⟩
  rw [← hr1, ← hr2]
  have HR := Lib.hid (And.intro hr1 hr2)
  subst hU
  clear hr1 hr2
  by_cases hb : badAt s at'
  · have HWord := Lib.hid (word_bad (h.quiet hc2) hd at' 64 #[.pointer (some ⟨w.heap.size + 1, 0, none⟩)] hb)
    obtain ⟨E, hE⟩ : ∃ E, E = (if errM s hd = 0 then 1 else errM s hd) := ⟨_, rfl⟩
    rw [← hE] at HWord
    have HR2 := Lib.hid (show r1 = 0 ∧ r2 = E by
      rw [HR.out.1, HR.out.2, hE]
      unfold loadM
      by_cases h0 : errM s hd = 0
      · rw [if_neg (by simpa using h0), if_pos (show at' < 0 ∨ (s.wd : Int) ≤ at' from hb), if_pos h0]; exact ⟨rfl, rfl⟩
      · rw [if_pos h0, if_neg h0]; exact ⟨rfl, rfl⟩)
    clear hE hb
    have HC2 := Lib.hid hc2
    have HK2 := Lib.hid hK2
    have HEh := Lib.hid h.eh
    have HP2 := Lib.hid (h.quiet hc2)
    have g0 := hH2.c 0 rfl
    have g1 := hH2.c 1 rfl
    obtain ⟨p, q⟩ := hd
    rw [hw2, hw1] at g0 g1
    have HW := Lib.hid (And.intro hw1 hw2)
    have hmf : ∀ (fn : Fn) (first cap : Array Value) (w : World), (Instr.makeFunc fn first cap).run Tryz.prog w = .ok (.func fn first cap) w := fun _ _ _ _ => rfl
    clear h hc2 hK2 hH2 s1 hw1 hw2
    go_enter Tryz.func29, Tryz.ntmps29
    go_wp2_with fail
    have e9 := HW.out.2
    rw [HW.out.1] at e9
    change w2 = (w.alloc (.cells #[.int .i64 p, .int .i64 q] _)).alloc _ at e9
    rw [← e9]
    clear e9 g0 g1
    with_reducible refine HWord.out.mono ?_
    rintro e w3 ⟨rfl, hp, hx⟩
    have k0 : w3.cell? ⟨w.heap.size + 1, 0, none⟩ = some (.int .u64 0) := (hx.hb HK2.out (Nat.le_succ_of_le HEh.out) (by decide) (by decide)).c 0 rfl
    have HP3 := Lib.hid hp
    have HX3 := Lib.hid ((Xn.of_ch HC2.out).trans hx)
    clear hp hx
    go_wp2
    go_ret2
    exact ⟨by rw [HR2.out.1, HR2.out.2]; rfl, HP3.out, HX3.out⟩
  · obtain ⟨i, rfl⟩ : ∃ i : Nat, at' = (i : Int) := ⟨at'.toNat, by unfold badAt at hb; omega⟩
    have hi : i < s.wd := by unfold badAt at hb; omega
    have HWord := Lib.hid (word_good (h.quiet hc2) hwf hd i 64 #[.pointer (some ⟨w.heap.size + 1, 0, none⟩)] hi (elM s hd) (w.heap.size + 1) hK2.lt (Nat.le_succ_of_le h.eh) (fun W => HB W (w.heap.size + 1) 40 #[.int .u64 0]) (fun W => HB W (w.heap.size + 1) 40 #[.int .u64 ((elM s hd).v i : Int)])
      (enters_of Tryz.func64 (by kernel_rfl) rfl) (fun W W' hb hc => hb.ch hc (by simp)) (fun W W' hb hc => hb.ch hc (by have l := h.lay; have := l.gr; have := l.rs; have := l.sr; have := l.re; have := h.eh; simp; omega)) hK2
      (fun W B hB he hK hp => by
        refine (load1_any (by omega) hB hK).mono ?_
        rintro e W' ⟨rfl, rfl⟩
        have hne : w.heap.size + 1 ≠ B := fun e => by
          subst e
          have h1 := hK.symm.trans hB
          simp at h1
        exact ⟨rfl, hB.far (p := ⟨w.heap.size + 1, 0, none⟩) hne _, hp.kept hK (Nat.le_succ_of_le h.eh) (by decide) (by decide) (by decide) _, fun C t cs hC h1 _ => hC.far (p := ⟨w.heap.size + 1, 0, none⟩) (Ne.symm h1) _, ((Xk.of (K := w.heap.size + 1) (Xn.of_ch (Ch.refl _ _))).set (p := ⟨w.heap.size + 1, 0, none⟩) rfl _).two, hK.set 0 _⟩))
    have HR2 := Lib.hid (show (errM s hd ≠ 0 → r1 = 0 ∧ r2 = errM s hd) ∧ (errM s hd = 0 → r1 = (elM s hd).v i ∧ r2 = 0) by
      rw [HR.out.1, HR.out.2]
      unfold loadM
      by_cases h0 : errM s hd = 0
      · rw [if_neg (by simpa using h0), if_neg (show ¬ ((i : Int) < 0 ∨ (s.wd : Int) ≤ (i : Int)) from hb)]; exact ⟨fun h => absurd h0 h, fun _ => ⟨rfl, rfl⟩⟩
      · rw [if_pos h0]; exact ⟨fun _ => ⟨rfl, rfl⟩, fun h => absurd h h0⟩)
    clear hb HR
    have HC2 := Lib.hid hc2
    have HK2 := Lib.hid hK2
    have HEh := Lib.hid h.eh
    have HP2 := Lib.hid (h.quiet hc2)
    have g0 := hH2.c 0 rfl
    have g1 := hH2.c 1 rfl
    obtain ⟨p, q⟩ := hd
    rw [hw2, hw1] at g0 g1
    have HW := Lib.hid (And.intro hw1 hw2)
    have hmf : ∀ (fn : Fn) (first cap : Array Value) (w : World), (Instr.makeFunc fn first cap).run Tryz.prog w = .ok (.func fn first cap) w := fun _ _ _ _ => rfl
    clear h hc2 hK2 hH2 s1 hw1 hw2
    go_enter Tryz.func29, Tryz.ntmps29
    go_wp2_with fail
    have e9 := HW.out.2
    rw [HW.out.1] at e9
    change w2 = (w.alloc (.cells #[.int .i64 p, .int .i64 q] _)).alloc _ at e9
    rw [← e9]
    clear e9 g0 g1
    with_reducible refine HWord.out.mono ?_
    rintro e w3 (⟨h1, rfl, hc⟩ | ⟨h1, rfl, hp, hx, hj⟩)
    · have k0 : w3.cell? ⟨w.heap.size + 1, 0, none⟩ = some (.int .u64 0) := (HK2.out.ch hc (by simp)).c 0 rfl
      have HR3 := Lib.hid (HR2.out.1 h1)
      have HC3 := Lib.hid hc
      obtain ⟨Er, hEr⟩ : ∃ Er, Er = errM s (p, q) := ⟨_, rfl⟩
      rw [← hEr] at HR3 ⊢
      clear hc h1 hEr
      go_wp2
      go_ret2
      exact ⟨by rw [HR3.out.1, HR3.out.2]; rfl, HP2.out.quiet HC3.out, (Xn.of_ch HC2.out).trans (Xn.of_ch HC3.out)⟩
    · have HR3 := Lib.hid (HR2.out.2 h1)
      rw [setM_same] at hp
      obtain ⟨z, hz⟩ : ∃ z, z = (elM s (p, q)).v i := ⟨_, rfl⟩
      have k0 : w3.cell? ⟨w.heap.size + 1, 0, none⟩ = some (.int .u64 (z : Int)) := by rw [hz]; exact hj.c 0 rfl
      rw [← hz] at HR3
      have HP3 := Lib.hid hp
      have HX3 := Lib.hid (Xk.fresh HC2.out hx (by omega))
      clear hj hp hx h1 hz HWord
      go_wp2
      go_ret2
      exact ⟨by rw [HR3.out.1, HR3.out.2]; rfl, HP3.out, HX3.out⟩
set_option maxHeartbeats 1000000 in
theorem store_any (h : XP w b s N tb us) (hwf : s.wd ≤ 4) (hd : Int × Int) (at' : Int) (u : Nat) :
    Calls Tryz.prog 30 #[mp b, hdV hd, .int .i64 at', .int .u64 (u : Int)] w fun e w' => e = .returned (.int .i64 (storeM s hd at' u).2) ∧ XP w' b (storeM s hd at' u).1 N tb us ∧ Xn b w w' := by
  obtain ⟨U, hU⟩ : ∃ U : Int, U = (u : Int) := ⟨_, rfl⟩
  obtain ⟨w1, hw1⟩ : ∃ w1, w1 = w.alloc (.cells #[.int .i64 hd.1, .int .i64 hd.2] 39) := ⟨_, rfl⟩
  obtain ⟨w2, hw2⟩ : ∃ w2, w2 = w1.alloc (.cells #[.int .u64 U] 40) := ⟨_, rfl⟩
  have s1 : w1.heap.size = w.heap.size + 1 := by rw [hw1]; simp
  have hc2 : Ch [] w w2 := by rw [hw2, hw1]; exact ((Ch.refl [] w).alloc _).alloc _
  have hK2 : HB w2 (w.heap.size + 1) 40 #[.int .u64 U] := by rw [hw2, ← s1]; exact HB.new w1 _ _
  have hH2 : HB w2 w.heap.size 39 #[.int .i64 hd.1, .int .i64 hd.2] := by rw [hw2, hw1]; exact (HB.new w _ _).alloc _
  obtain ⟨r1, hr1⟩ : ∃ r, r = (storeM s hd at' u).1 := ⟨_, rfl⟩
  obtain ⟨r2, hr2⟩ : ∃ r, r = (storeM s hd at' u).2 := ⟨_, rfl⟩
  rw [← hr1, ← hr2]
  have HR := Lib.hid (And.intro hr1 hr2)
  subst hU
  clear hr1 hr2
  by_cases hb : badAt s at'
  · have HWord := Lib.hid (word_bad (h.quiet hc2) hd at' 65 #[.pointer (some ⟨w.heap.size + 1, 0, none⟩)] hb)
    obtain ⟨E, hE⟩ : ∃ E, E = (if errM s hd = 0 then 1 else errM s hd) := ⟨_, rfl⟩
    rw [← hE] at HWord
    have HR2 := Lib.hid (show r1 = s ∧ r2 = E by
      rw [HR.out.1, HR.out.2, hE]
      unfold storeM
      by_cases h0 : errM s hd = 0
      · rw [if_neg (by simpa using h0), if_pos (show at' < 0 ∨ (s.wd : Int) ≤ at' from hb), if_pos h0]; exact ⟨rfl, rfl⟩
      · rw [if_pos h0, if_neg h0]; exact ⟨rfl, rfl⟩)
    clear hE hb
    have HC2 := Lib.hid hc2
    have HK2 := Lib.hid hK2
    have HEh := Lib.hid h.eh
    have HP2 := Lib.hid (h.quiet hc2)
    have g0 := hH2.c 0 rfl
    have g1 := hH2.c 1 rfl
    obtain ⟨p, q⟩ := hd
    rw [hw2, hw1] at g0 g1
    have HW := Lib.hid (And.intro hw1 hw2)
    have hmf : ∀ (fn : Fn) (first cap : Array Value) (w : World), (Instr.makeFunc fn first cap).run Tryz.prog w = .ok (.func fn first cap) w := fun _ _ _ _ => rfl
    clear h hc2 hK2 hH2 s1 hw1 hw2
    go_enter Tryz.func30, Tryz.ntmps30
    go_wp2_with fail
    have e9 := HW.out.2
    rw [HW.out.1] at e9
    change w2 = (w.alloc (.cells #[.int .i64 p, .int .i64 q] _)).alloc _ at e9
    rw [← e9]
    clear e9 g0 g1
    with_reducible refine HWord.out.mono ?_
    rintro e w3 ⟨rfl, hp, hx⟩
    have HP3 := Lib.hid hp
    have HX3 := Lib.hid ((Xn.of_ch HC2.out).trans hx)
    clear hp hx
    go_wp2
    go_ret
    exact ⟨by rw [HR2.out.2]; rfl, by rw [HR2.out.1]; exact HP3.out, HX3.out⟩
  · obtain ⟨i, rfl⟩ : ∃ i : Nat, at' = (i : Int) := ⟨at'.toNat, by unfold badAt at hb; omega⟩
    have hi : i < s.wd := by unfold badAt at hb; omega
    have HWord := Lib.hid (word_good (h.quiet hc2) hwf hd i 65 #[.pointer (some ⟨w.heap.size + 1, 0, none⟩)] hi ⟨(elM s hd).k, updW (elM s hd).v i u⟩ (w.heap.size + 1) hK2.lt (Nat.le_succ_of_le h.eh) (fun W => HB W (w.heap.size + 1) 40 #[.int .u64 (u : Int)]) (fun _ => True)
      (enters_of Tryz.func65 (by kernel_rfl) rfl) (fun W W' hb hc => hb.ch hc (by simp)) (fun _ _ _ _ => trivial) hK2
      (fun W B hB he hK hp => by
        refine (store1_any (by omega) hB hK).mono ?_
        rintro e W' ⟨rfl, rfl⟩
        have hne : B ≠ w.heap.size + 1 := fun e => by
          subst e
          have h1 := hK.symm.trans hB
          simp at h1
        have hE := hB.set (1 + i) (.int .u64 (u : Int))
        rw [elC_upd _ (by omega)] at hE
        exact ⟨rfl, hE, hp.other hB he (by decide) (by decide) (by decide) _ _, fun C t cs hC _ h1 => hC.far (p := ⟨B, 1 + i, none⟩) (Ne.symm h1) _, Xk2.setB W _ _, trivial⟩))
    have HR2 := Lib.hid (show (errM s hd ≠ 0 → r1 = s ∧ r2 = errM s hd) ∧ (errM s hd = 0 → r1 = setM s hd ⟨(elM s hd).k, updW (elM s hd).v i u⟩ ∧ r2 = 0) by
      rw [HR.out.1, HR.out.2]
      unfold storeM
      by_cases h0 : errM s hd = 0
      · rw [if_neg (by simpa using h0), if_neg (show ¬ ((i : Int) < 0 ∨ (s.wd : Int) ≤ (i : Int)) from hb)]; exact ⟨fun h => absurd h0 h, fun _ => ⟨rfl, rfl⟩⟩
      · rw [if_pos h0]; exact ⟨fun _ => ⟨rfl, rfl⟩, fun h => absurd h h0⟩)
    clear hb HR
    have HC2 := Lib.hid hc2
    have HK2 := Lib.hid hK2
    have HEh := Lib.hid h.eh
    have HP2 := Lib.hid (h.quiet hc2)
    have g0 := hH2.c 0 rfl
    have g1 := hH2.c 1 rfl
    obtain ⟨p, q⟩ := hd
    rw [hw2, hw1] at g0 g1
    have HW := Lib.hid (And.intro hw1 hw2)
    have hmf : ∀ (fn : Fn) (first cap : Array Value) (w : World), (Instr.makeFunc fn first cap).run Tryz.prog w = .ok (.func fn first cap) w := fun _ _ _ _ => rfl
    clear h hc2 hK2 hH2 s1 hw1 hw2
    go_enter Tryz.func30, Tryz.ntmps30
    go_wp2_with fail
    have e9 := HW.out.2
    rw [HW.out.1] at e9
    change w2 = (w.alloc (.cells #[.int .i64 p, .int .i64 q] _)).alloc _ at e9
    rw [← e9]
    clear e9 g0 g1
    with_reducible refine HWord.out.mono ?_
    rintro e w3 (⟨h1, rfl, hc⟩ | ⟨h1, rfl, hp, hx, hj⟩)
    · have HR3 := Lib.hid (HR2.out.1 h1)
      have HC3 := Lib.hid hc
      obtain ⟨Er, hEr⟩ : ∃ Er, Er = errM s (p, q) := ⟨_, rfl⟩
      rw [← hEr] at HR3 ⊢
      clear hc h1 hEr
      go_wp2
      go_ret
      exact ⟨by rw [HR3.out.2]; rfl, by rw [HR3.out.1]; exact HP2.out.quiet HC3.out, (Xn.of_ch HC2.out).trans (Xn.of_ch HC3.out)⟩
    · have HR3 := Lib.hid (HR2.out.2 h1)
      have HP3 := Lib.hid hp
      have HX3 := Lib.hid (Xk.fresh HC2.out hx (by omega))
      clear hj hp hx h1
      go_wp2
      go_ret
      exact ⟨by rw [HR3.out.2]; rfl, by rw [HR3.out.1]; exact HP3.out, HX3.out⟩
end
end Go.Proofs.YtalhlopjaijhcaaGreat

namespace Go.Proofs.YtalhlopjaijhcaaGreat
open Go.RowKit

attribute [local go_sem] Oper.semAt_some

theorem HB.box2 {W : World} {B : Nat} {t : TypeId} {x y : Value} (h : HB W B t #[x, y]) : Box2 W B x y := ⟨h.c 0 rfl, h.c 1 rfl, h.f 0, h.f 1⟩
section
variable {w : World} {b : Bk} {s : MS} {N : Nat}
set_option maxHeartbeats 1000000 in
theorem free_any (h : XM w b s N) (hd : Int × Int) :
    Calls Tryz.prog 27 #[mp b, hdV hd] w fun e w' => e = .returned (.int .i64 (frM s hd).2) ∧ XM w' b (frM s hd).1 N ∧ Xn b w w' := by
  obtain ⟨w1, hw1⟩ : ∃ w1, w1 = w.alloc (.cells #[.int .i64 hd.1, .int .i64 hd.2] 39) := ⟨_, rfl⟩
  have hc1 : Ch [] w w1 := by rw [hw1]; exact (Ch.refl [] w).alloc _
  have HH1 := Lib.hid (show HB w1 w.heap.size 39 #[.int .i64 hd.1, .int .i64 hd.2] by rw [hw1]; exact HB.new w _ _)
  have HLk := Lib.hid (linked_any (h.xp.quiet hc1) hd)
  have HEh := Lib.hid h.eh
  have HWF := Lib.hid h.wf
  have HC1 := Lib.hid hc1
  have g0 := HH1.out.c 0 rfl
  have g1 := HH1.out.c 1 rfl
  obtain ⟨p, q⟩ := hd
  rw [hw1] at g0 g1
  have HW := Lib.hid hw1
  obtain ⟨r, hr⟩ : ∃ r, r = isLinked s (p, q) := ⟨_, rfl⟩
  rw [show decide (errM s (p, q) = 0 ∧ valE s.tb (elM s (p, q)).k = some (p, q)) = r from hr.symm] at HLk
  have HR := Lib.hid hr
  clear h hc1 hw1 hr
  cases r with
  | true =>
    go_enter Tryz.func27, Tryz.ntmps27
    go_wp2_with fail
    rw [← HW.out]
    with_reducible refine HLk.out.mono ?_
    rintro e w2 ⟨rfl, hp, hx⟩
    have HP := Lib.hid hp
    have HX := Lib.hid ((Xn.of_ch HC1.out).trans hx)
    clear hp hx
    go_wp2
    go_ret
    have e1 : frM s (p, q) = (s, 21) := if_pos HR.out.symm
    rw [e1]
    exact ⟨rfl, HP.out.xm HWF.out, HX.out⟩
  | false =>
    go_enter Tryz.func27, Tryz.ntmps27
    go_wp2_with fail
    rw [← HW.out]
    with_reducible refine HLk.out.mono ?_
    rintro e w2 ⟨rfl, hp, hx⟩
    have HP := Lib.hid hp
    have hH2 := hx.hb HH1.out HEh.out (by decide) (by decide)
    have HX := Lib.hid ((Xn.of_ch HC1.out).trans hx)
    have c4 := hp.cells.2.2.2.2.1
    have g0 := hH2.c 0 rfl
    have g1 := hH2.c 1 rfl
    have HH2 := Lib.hid hH2
    obtain ⟨Er, hEr⟩ : ∃ Er, Er = errM s (p, q) := ⟨_, rfl⟩
    have HER := Lib.hid hEr
    clear hp hx hH2 HLk hEr
    go_wp2_with fail
    refine wp_region_noPanic ?_
    refine wp_region_held_drew (S := fun w' => w'.cell? ⟨b.X, 4, none⟩ = some (.pointer (some ⟨b.Ra, 0, none⟩)) ∧ w'.cell? ⟨w.heap.size, 0, none⟩ = some (.int .i64 p) ∧ w'.cell? ⟨w.heap.size, 1, none⟩ = some (.int .i64 q)) (by kernel_rfl) ⟨c4, g0, g1⟩ (fun hHeld => ?_)
    refine wpAnyH_take (i := 0) (oi := { dst := some 10, op := _, type := _, pos := _, after := _, guard := _ }) (v := ?v1_0) rfl (by kernel_rfl) (by kernel_rfl) (by kernel_rfl) (by intro _ _ _ h; first | exact h | exact nomatch h.1) (.inl ⟨by rfl, ?h1_0⟩) (by assumption) ?_
    case h1_0 => intro w hSw; obtain ⟨hs0, hs1, hs2⟩ := hSw; go_simp; (try with_reducible rfl)
    try simp only [Act.put, List.setIfInBounds_toArray, List.set_cons_zero, List.set_cons_succ]
    refine wpAnyH_take (i := 1) (oi := { dst := some 11, op := _, type := _, pos := _, after := _, guard := _ }) (v := ?v2_1) rfl (by kernel_rfl) (by kernel_rfl) (by kernel_rfl) (by intro _ _ _ h; first | exact h | exact nomatch h.1) (.inl ⟨by rfl, ?h2_1⟩) (by assumption) ?_
    case h2_1 => intro w hSw; obtain ⟨hs0, hs1, hs2⟩ := hSw; go_simp; (try with_reducible rfl)
    try simp only [Act.put, List.setIfInBounds_toArray, List.set_cons_zero, List.set_cons_succ]
    refine wpAnyH_take (i := 2) (oi := { dst := some 12, op := _, type := _, pos := _, after := _, guard := _ }) (v := ?v3_2) rfl (by kernel_rfl) (by kernel_rfl) (by kernel_rfl) (by intro _ _ _ h; first | exact h | exact nomatch h.1) (.inl ⟨by rfl, ?h3_2⟩) (by assumption) ?_
    case h3_2 => intro w hSw; obtain ⟨hs0, hs1, hs2⟩ := hSw; go_simp; (try with_reducible rfl)
    try simp only [Act.put, List.setIfInBounds_toArray, List.set_cons_zero, List.set_cons_succ]
    refine wpAnyH_take (i := 3) (oi := { dst := some 13, op := _, type := _, pos := _, after := _, guard := _ }) (v := ?v4_3) rfl (by kernel_rfl) (by kernel_rfl) (by kernel_rfl) (by intro _ _ _ h; first | exact h | exact nomatch h.1) (.inl ⟨by rfl, ?h4_3⟩) (by assumption) ?_
    case h4_3 => intro w hSw; obtain ⟨hs0, hs1, hs2⟩ := hSw; go_simp; (try with_reducible rfl)
    try simp only [Act.put, List.setIfInBounds_toArray, List.set_cons_zero, List.set_cons_succ]
    refine wpAnyH_take (i := 4) (oi := { dst := some 14, op := _, type := _, pos := _, after := _, guard := _ }) (v := ?v5_4) rfl (by kernel_rfl) (by kernel_rfl) (by kernel_rfl) (by intro _ _ _ h; first | exact h | exact nomatch h.1) (.inl ⟨by rfl, ?h5_4⟩) (by assumption) ?_
    case h5_4 => intro w hSw; obtain ⟨hs0, hs1, hs2⟩ := hSw; go_simp; (try with_reducible rfl)
    try simp only [Act.put, List.setIfInBounds_toArray, List.set_cons_zero, List.set_cons_succ]
    clear c4 g0 g1
    obtain ⟨w3, hw3⟩ : ∃ w3, w3 = w2.drew.alloc (.cells #[.int .i64 p, .int .i64 q] 39) := ⟨_, rfl⟩
    have hc3 : Ch [] w2 w3 := by rw [hw3]; exact (Ch.refl [] w2).drew.alloc _
    have hN3 : HB w3 w2.heap.size 39 #[.int .i64 p, .int .i64 q] := by rw [hw3]; exact HB.new w2.drew _ _
    have hheld : w3.cell? ⟨b.X, 4, none⟩ = some (.pointer (some ⟨b.Ra, 0, none⟩)) ∧ w3.cell? ⟨w.heap.size, 0, none⟩ = some (.int .i64 p) ∧ w3.cell? ⟨w.heap.size, 1, none⟩ = some (.int .i64 q) := ⟨(HP.out.quiet hc3).cells.2.2.2.2.1, (HH2.out.ch hc3 (by simp)).c 0 rfl, (HH2.out.ch hc3 (by simp)).c 1 rfl⟩
    rw [hw3] at hheld
    refine wpAnyH_ready (rs := [5]) (by kernel_rfl) (by simp) ?_
    refine AllReadyH.cons (o := { dst := some 15, op := _, type := _, pos := _, after := _, guard := _ }) rfl (fun K hK => ?_) AllReadyH.nil
    go_simp
    refine hK.out _ _ hheld (fun hHeld => ?_)
    clear hK K
    try simp only [Act.put, List.setIfInBounds_toArray, List.set_cons_zero, List.set_cons_succ]
    change wpAnyH _ _ _ _ _ _ _ _ (w2.drew.alloc (.cells #[.int .i64 p, .int .i64 q] 39))
    rw [← hw3]
    have hF := aE.free_one (HP.out.quiet hc3).ar w2.heap.size 1 p q hN3.box2 (by have := HP.out.ar.lt.2; omega)
    rw [show findE s.xs p q = Er from HER.out.symm] at hF
    have HF := Lib.hid hF
    have HC3 := Lib.hid hc3
    clear hheld hw3 hc3 hN3 hF
    refine wpAnyH_ready (rs := [6]) (by kernel_rfl) (by simp) ?_
    refine AllReadyH.cons (o := { dst := some 16, op := _, type := _, pos := _, after := _, guard := _ }) rfl (fun K hK => ?_) AllReadyH.nil
    go_simp
    with_reducible refine HF.out.mono ?_; rintro r w4 ⟨rfl, hA4, hc4⟩; have HP4 := Lib.hid ((HP.out.quiet HC3.out).arena hc4 hA4); have hx4 := (Xn.of_ch (b := b) HC3.out).trans HP4.out.2; have HX4 := Lib.hid hx4; clear hA4 hc4
    refine hK.out _ _ ⟨HP4.out.1.cells.2.2.2.2.1, (hx4.hb HH2.out (Nat.le_trans HEh.out (Nat.le_refl _)) (by decide) (by decide)).c 0 rfl, (hx4.hb HH2.out HEh.out (by decide) (by decide)).c 1 rfl⟩ (fun hHeld => ?_)
    clear hK K
    try simp only [Act.put, List.setIfInBounds_toArray, List.set_cons_zero, List.set_cons_succ]
    clear hx4
    refine wpAnyH_take (i := 7) (oi := { dst := some 4, op := _, type := _, pos := _, after := _, guard := _ }) (v := ?v6_7) rfl (by kernel_rfl) (by kernel_rfl) (by kernel_rfl) (by intro _ _ _ h; first | exact h | exact nomatch h.1) (.inl ⟨by rfl, ?h6_7⟩) (by assumption) ?_
    case h6_7 => intro w hSw; obtain ⟨hs0, hs1, hs2⟩ := hSw; go_simp; (try with_reducible rfl)
    try simp only [Act.put, List.setIfInBounds_toArray, List.set_cons_zero, List.set_cons_succ]
    refine wpAnyH_done (by kernel_rfl) ?_ _
    refine NoPanic.normal ?_
    go_wp2
    go_ret
    have e1 : frM s (p, q) = (freeM s (p, q), errM s (p, q)) := if_neg (by rw [← HR.out]; decide)
    rw [e1]
    exact ⟨by rw [HER.out]; rfl, HP4.out.1.xm (HWF.out.free (p, q) HR.out.symm), HX.out.trans HX4.out⟩
end

theorem free_nil (hd : Int × Int) (w : World) : Calls Tryz.prog 27 #[.pointer none, hdV hd] w fun e w' => e = .returned (.int .i64 6) ∧ Ch [] w w' := by
  have HC := Lib.hid ((Ch.refl [] w).alloc (.cells #[.int .i64 hd.1, .int .i64 hd.2] 39))
  go_enter Tryz.func27, Tryz.ntmps27
  go_wp2
  go_ret
  exact ⟨rfl, HC.out⟩
end Go.Proofs.YtalhlopjaijhcaaGreat

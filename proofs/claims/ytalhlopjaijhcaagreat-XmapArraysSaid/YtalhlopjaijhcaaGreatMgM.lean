/-
  Several texts in one: Nil maps: words, Close. · A new map. · A new map. · A map of a law's own; rows of words compared. · The chapter's examples.
-/
import Derived.Test.YtalhlopjaijhcaaGreatMgL
namespace Go.Proofs.YtalhlopjaijhcaaGreat
open Go.RowKit

attribute [local go_sem] Oper.semAt_some

theorem close_nil (w : World) : Calls Tryz.prog 32 #[.pointer none] w fun e w' => e = .returned (.slice none 0 0) ∧ w' = w := by
  go_enter Tryz.func32, Tryz.ntmps32
  go_wp2
  go_ret
  exact ⟨rfl, rfl⟩
theorem word_nil (hd : Int × Int) (at' : Int) (fd : Nat) (dc : Array Value) (w : World) : Calls Tryz.prog 63 #[.pointer none, hdV hd, .int .i64 at', .func (.func fd) #[] dc] w fun e w' => e = .returned (.int .i64 6) ∧ Ch [] w w' := by
  have HWith := Lib.hid (fun f W => with_nil hd f W)
  obtain ⟨w1, hw1⟩ : ∃ w1, w1 = w.alloc (.cells #[.pointer none] 31) := ⟨_, rfl⟩
  obtain ⟨w2, hw2⟩ : ∃ w2, w2 = w1.alloc (.cells #[.int .i64 hd.1, .int .i64 hd.2] 39) := ⟨_, rfl⟩
  obtain ⟨w3, hw3⟩ : ∃ w3, w3 = w2.alloc (.cells #[.int .i64 at'] 3) := ⟨_, rfl⟩
  obtain ⟨w4, hw4⟩ : ∃ w4, w4 = w3.alloc (.cells #[.func (.func fd) #[] dc] 121) := ⟨_, rfl⟩
  have s1 : w1.heap.size = w.heap.size + 1 := by rw [hw1]; simp
  have s2 : w2.heap.size = w.heap.size + 1 + 1 := by rw [hw2]; simp [s1]
  have hc4 : Ch [] w w4 := by rw [hw4, hw3, hw2, hw1]; exact ((((Ch.refl [] w).alloc _).alloc _).alloc _).alloc _
  have hM4 : HB w4 w.heap.size 31 #[.pointer none] := by rw [hw4, hw3, hw2, hw1]; exact (((HB.new w _ _).alloc _).alloc _).alloc _
  have hH4 : HB w4 (w.heap.size + 1) 39 #[.int .i64 hd.1, .int .i64 hd.2] := by rw [hw4, hw3, hw2, ← s1]; exact ((HB.new w1 _ _).alloc _).alloc _
  have HC4 := Lib.hid hc4
  have m0 := hM4.c 0 rfl
  have g0 := hH4.c 0 rfl
  have g1 := hH4.c 1 rfl
  obtain ⟨p, q⟩ := hd
  rw [hw4, hw3, hw2, hw1] at m0 g0 g1
  have HW := Lib.hid (And.intro hw1 (And.intro hw2 (And.intro hw3 hw4)))
  have hmf : ∀ (fn : Fn) (first cap : Array Value) (w : World), (Instr.makeFunc fn first cap).run Tryz.prog w = .ok (.func fn first cap) w := fun _ _ _ _ => rfl
  clear hc4 hM4 hH4 s1 s2 hw1 hw2 hw3 hw4
  go_enter Tryz.func63, Tryz.ntmps63
  go_wp2_with fail
  have e9 := HW.out.2.2.2
  rw [HW.out.2.2.1, HW.out.2.1, HW.out.1] at e9
  change w4 = (((w.alloc _).alloc (.cells #[.int .i64 p, .int .i64 q] _)).alloc _).alloc _ at e9
  rw [← e9]
  clear e9 m0 g0 g1
  with_reducible refine (HWith.out _ _).mono ?_
  rintro e w5 ⟨rfl, hc⟩
  have HC := Lib.hid (HC4.out.trans hc)
  clear hc
  go_wp2
  go_ret
  exact ⟨rfl, HC.out⟩
theorem load_nil (hd : Int × Int) (at' : Int) (w : World) : Calls Tryz.prog 29 #[.pointer none, hdV hd, .int .i64 at'] w fun e w' => e = .returned (.tuple #[.int .u64 0, .int .i64 6]) ∧ Ch [] w w' := by
  have HWord := Lib.hid (fun fd dc W => word_nil hd at' fd dc W)
  obtain ⟨w1, hw1⟩ : ∃ w1, w1 = w.alloc (.cells #[.int .i64 hd.1, .int .i64 hd.2] 39) := ⟨_, rfl⟩
  obtain ⟨w2, hw2⟩ : ∃ w2, w2 = w1.alloc (.cells #[.int .u64 0] 40) := ⟨_, rfl⟩
  have s1 : w1.heap.size = w.heap.size + 1 := by rw [hw1]; simp
  have hc2 : Ch [] w w2 := by rw [hw2, hw1]; exact ((Ch.refl [] w).alloc _).alloc _
  have hK2 : HB w2 (w.heap.size + 1) 40 #[.int .u64 0] := by rw [hw2, ← s1]; exact HB.new w1 _ _
  have hH2 : HB w2 w.heap.size 39 #[.int .i64 hd.1, .int .i64 hd.2] := by rw [hw2, hw1]; exact (HB.new w _ _).alloc _
  have HC2 := Lib.hid hc2
  have HK2 := Lib.hid hK2
  have g0 := hH2.c 0 rfl
  have g1 := hH2.c 1 rfl
  obtain ⟨p, q⟩ := hd
  rw [hw2, hw1] at g0 g1
  have HW := Lib.hid (And.intro hw1 hw2)
  have hmf : ∀ (fn : Fn) (first cap : Array Value) (w : World), (Instr.makeFunc fn first cap).run Tryz.prog w = .ok (.func fn first cap) w := fun _ _ _ _ => rfl
  clear hc2 hK2 hH2 s1 hw1 hw2
  go_enter Tryz.func29, Tryz.ntmps29
  go_wp2_with fail
  have e9 := HW.out.2
  rw [HW.out.1] at e9
  change w2 = (w.alloc (.cells #[.int .i64 p, .int .i64 q] _)).alloc _ at e9
  rw [← e9]
  clear e9 g0 g1
  with_reducible refine (HWord.out _ _ _).mono ?_
  rintro e w3 ⟨rfl, hc⟩
  have k0 : w3.cell? ⟨w.heap.size + 1, 0, none⟩ = some (.int .u64 0) := (HK2.out.ch hc (by simp)).c 0 rfl
  have HC := Lib.hid (HC2.out.trans hc)
  clear hc
  go_wp2
  go_ret2
  exact ⟨rfl, HC.out⟩
theorem store_nil (hd : Int × Int) (at' : Int) (u : Nat) (w : World) : Calls Tryz.prog 30 #[.pointer none, hdV hd, .int .i64 at', .int .u64 (u : Int)] w fun e w' => e = .returned (.int .i64 6) ∧ Ch [] w w' := by
  have HWord := Lib.hid (fun fd dc W => word_nil hd at' fd dc W)
  obtain ⟨w1, hw1⟩ : ∃ w1, w1 = w.alloc (.cells #[.int .i64 hd.1, .int .i64 hd.2] 39) := ⟨_, rfl⟩
  obtain ⟨w2, hw2⟩ : ∃ w2, w2 = w1.alloc (.cells #[.int .u64 (u : Int)] 40) := ⟨_, rfl⟩
  have hc2 : Ch [] w w2 := by rw [hw2, hw1]; exact ((Ch.refl [] w).alloc _).alloc _
  have hH2 : HB w2 w.heap.size 39 #[.int .i64 hd.1, .int .i64 hd.2] := by rw [hw2, hw1]; exact (HB.new w _ _).alloc _
  have HC2 := Lib.hid hc2
  have g0 := hH2.c 0 rfl
  have g1 := hH2.c 1 rfl
  obtain ⟨p, q⟩ := hd
  rw [hw2, hw1] at g0 g1
  have HW := Lib.hid (And.intro hw1 hw2)
  have hmf : ∀ (fn : Fn) (first cap : Array Value) (w : World), (Instr.makeFunc fn first cap).run Tryz.prog w = .ok (.func fn first cap) w := fun _ _ _ _ => rfl
  clear hc2 hH2 hw1 hw2
  go_enter Tryz.func30, Tryz.ntmps30
  go_wp2_with fail
  have e9 := HW.out.2
  rw [HW.out.1] at e9
  change w2 = (w.alloc (.cells #[.int .i64 p, .int .i64 q] _)).alloc _ at e9
  rw [← e9]
  clear e9 g0 g1
  with_reducible refine (HWord.out _ _ _).mono ?_
  rintro e w3 ⟨rfl, hc⟩
  have HC := Lib.hid (HC2.out.trans hc)
  clear hc
  go_wp2
  go_ret
  exact ⟨rfl, HC.out⟩
end Go.Proofs.YtalhlopjaijhcaaGreat

namespace Go.Proofs.YtalhlopjaijhcaaGreat
open Go.RowKit

attribute [local go_sem] Oper.semAt_some

def z4 : Nat → Nat := fun _ => 0
/-- An array, while its elements are linked. -/
def arrX (n i : Nat) : List (Sl El) := (List.range (2 * n)).map fun k => if k < i then ⟨1, true, ⟨k, z4⟩⟩ else ⟨1, false, default⟩
def arrT : Nat → List (Ent (Int × Int))
  | 0 => []
  | i + 1 => ⟨i, ((i : Int), 1)⟩ :: arrT i
def arrM (n wd i : Nat) : MS := ⟨0, n, wd, false, arrX n i, arrT i, []⟩
theorem arrX_at {n i k : Nat} (hk : k < 2 * n) : at0 (arrX n i) k = if k < i then ⟨1, true, ⟨k, z4⟩⟩ else ⟨1, false, default⟩ := by
  unfold at0 arrX
  rw [List.getElem?_map, List.getElem?_range hk]; rfl
theorem arrX_len (n i : Nat) : (arrX n i).length = 2 * n := by simp [arrX]
theorem arrX_zero (n : Nat) : arrX n 0 = aE.fresh (2 * n) := by
  apply List.ext_getElem?
  intro j
  by_cases hj : j < 2 * n
  · simp [arrX, aE.fresh, hj]
  · rw [List.getElem?_eq_none (by simp [arrX]; omega), List.getElem?_eq_none (by simp [aE.fresh]; omega)]
theorem arrX_first {n i : Nat} (hi : i < n) : firstOf (arrX n i) isFree = some i := by
  refine firstOf_at (by rw [arrX_len]; omega) (fun j hj => ?_) ?_
  · rw [arrX_at (by omega), if_pos hj]; rfl
  · rw [arrX_at (by omega), if_neg (by omega)]; rfl
theorem arrX_put {n i : Nat} (hi : i < n) : putL (arrX n i) ⟨i, z4⟩ = arrX n (i + 1) := by
  rw [putL_some (arrX_first hi), arrX_at (by omega), if_neg (by omega)]
  apply List.ext_getElem?
  intro j
  by_cases hj : j < 2 * n
  · by_cases e : j = i
    · subst e
      rw [List.getElem?_set_self (by rw [arrX_len]; omega)]
      simp [arrX, hj]
    · rw [List.getElem?_set_ne (Ne.symm e)]
      simp only [arrX, List.getElem?_map, List.getElem?_range hj, Option.map_some]
      by_cases h1 : j < i
      · rw [if_pos h1, if_pos (by omega)]
      · rw [if_neg h1, if_neg (by omega)]
  · rw [List.getElem?_eq_none (by rw [List.length_set, arrX_len]; omega), List.getElem?_eq_none (by rw [arrX_len]; omega)]
theorem arr_new {n wd i : Nat} (hi : i < n) : newH (arrM n wd i) = ((i : Int), 1) := by
  obtain ⟨e1, e2, _⟩ := putA_some (arrX_first hi)
  show (putS (arrX n i), putG (arrX n i)) = _
  rw [e1, e2, arrX_at (by omega), if_neg (by omega)]
  rfl
theorem arr_link {n wd i : Nat} (hi : i < n) : linkM (arrM n wd i) ⟨i, z4⟩ = arrM n wd (i + 1) := by
  rw [linkM_eq, arr_new hi]
  show MS.mk 0 n wd false (putL (arrX n i) ⟨i, z4⟩) _ _ = _
  rw [arrX_put hi]
  rfl
theorem arrT_ks : ∀ i k, k ∈ ksE (arrT i) ↔ k < i
  | 0, k => by simp [arrT, ksE]
  | i + 1, k => by
    have h1 := arrT_ks i k
    rw [show ksE (arrT (i + 1)) = i :: ksE (arrT i) from rfl, List.mem_cons, h1]
    omega
theorem arrT_len : ∀ i, (arrT i).length = i
  | 0 => rfl
  | i + 1 => by rw [show arrT (i + 1) = ⟨i, ((i : Int), 1)⟩ :: arrT i from rfl, List.length_cons, arrT_len i]
theorem arr_free {n wd i : Nat} (hi : i < n) : freeN0 (arrM n wd i) ≠ 0 := by
  intro h
  have h1 := arrX_first hi
  unfold firstOf at h1
  rw [show sel (arrX n i) isFree = [] from List.length_eq_zero_iff.1 h] at h1
  cases h1
/-- A new map. -/
def newM (kind n wd : Nat) : MS := if kind = 0 then arrM n wd n else ⟨kind, n, wd, false, aE.fresh (2 * n), [], []⟩
theorem base_wf {kind n wd : Nat} (hk : kind ≤ 2) (hn : 1 ≤ n ∧ n ≤ 8) (hw : 1 ≤ wd ∧ wd ≤ 4) : WF ⟨kind, n, wd, false, aE.fresh (2 * n), [], []⟩ :=
  ⟨hk, hn, hw, by simp [aE.fresh], List.nodup_nil, Nat.zero_le _, fun e he => (by cases he), fun _ k => by simp [ksE], fun _ => rfl, List.nodup_nil⟩
theorem arr_wf {n wd : Nat} (hn : 1 ≤ n ∧ n ≤ 8) (hw : 1 ≤ wd ∧ wd ≤ 4) : ∀ i, i ≤ n → WF (arrM n wd i)
  | 0, _ => by
    have := base_wf (kind := 0) (by omega) hn hw
    rw [← arrX_zero] at this
    exact this
  | i + 1, hi => by
    rw [← arr_link (wd := wd) (show i < n by omega)]
    refine (arr_wf hn hw i (by omega)).link ⟨i, z4⟩ ?_ ?_ (arr_free (by omega))
    · rw [show (arrM n wd i).tb = arrT i from rfl, arrT_ks]; exact Nat.lt_irrefl i
    · rw [show (arrM n wd i).tb = arrT i from rfl, arrT_len]; exact (by omega : i < n)
theorem new_wf {kind n wd : Nat} (hk : kind ≤ 2) (hn : 1 ≤ n ∧ n ≤ 8) (hw : 1 ≤ wd ∧ wd ≤ 4) : WF (newM kind n wd) := by
  unfold newM
  split
  · exact arr_wf hn hw n (Nat.le_refl _)
  · exact base_wf hk hn hw

/-- What New takes. -/
def newE (kind n wd : Int) : Int := if kind < 0 ∨ 2 < kind then 11 else if n < 1 ∨ 8 < n ∨ wd < 1 ∨ 4 < wd then 2 else 0
set_option maxHeartbeats 1000000 in
theorem new_bad (kind n wd : Int) (h : newE kind n wd ≠ 0) (w : World) :
    Calls Tryz.prog 9 #[.int .i64 kind, .int .i64 n, .int .i64 wd] w fun e w' => e = .returned (.tuple #[.pointer none, .int .i64 (newE kind n wd)]) ∧ w' = w := by
  unfold newE at h ⊢
  by_cases h1 : kind < 0
  · rw [if_pos (.inl h1)]
    go_enter Tryz.func9, Tryz.ntmps9
    go_wp2
    go_ret2
    exact ⟨rfl, rfl⟩
  by_cases h2 : 2 < kind
  · rw [if_pos (.inr h2)]
    go_enter Tryz.func9, Tryz.ntmps9
    go_wp2
    go_ret2
    exact ⟨rfl, rfl⟩
  rw [if_neg (by omega)] at h ⊢
  by_cases h3 : n < 1
  · rw [if_pos (.inl h3)]
    go_enter Tryz.func9, Tryz.ntmps9
    go_wp2
    go_ret2
    exact ⟨rfl, rfl⟩
  by_cases h4 : 8 < n
  · rw [if_pos (.inr (.inl h4))]
    go_enter Tryz.func9, Tryz.ntmps9
    go_wp2
    go_ret2
    exact ⟨rfl, rfl⟩
  by_cases h5 : wd < 1
  · rw [if_pos (.inr (.inr (.inl h5)))]
    go_enter Tryz.func9, Tryz.ntmps9
    go_wp2
    go_ret2
    exact ⟨rfl, rfl⟩
  by_cases h6 : 4 < wd
  · rw [if_pos (.inr (.inr (.inr h6)))]
    go_enter Tryz.func9, Tryz.ntmps9
    go_wp2
    go_ret2
    exact ⟨rfl, rfl⟩
  rw [if_neg (by omega)] at h
  exact absurd rfl h
end Go.Proofs.YtalhlopjaijhcaaGreat

namespace Go.Proofs.YtalhlopjaijhcaaGreat
open Go.RowKit

attribute [local go_sem] Oper.semAt_some

theorem tb_apart {w : World} {S R K n room : Nat} {H : Nat → Value} {L : List (Ent (Int × Int))} (h : bH.TB w S R K n room H L) : R ≠ K := by
  rintro rfl
  rcases h.heads.2 with ⟨h1, _⟩ | ⟨g, cap, cur, h1, _, hb, _⟩
  · cases h1
  · have h2 : g = R := by simp at h1; exact h1.1.symm
    subst h2
    have := h.blk.symm.trans hb
    simp at this
theorem XM.anyN {w : World} {b : Bk} {s : MS} {N : Nat} (h : XM w b s N) (hk : s.kind ≠ 2) (M : Nat) : XM w b s M := ⟨h.wf, h.blk, h.ar, h.tb, fun e => absurd e hk, h.lay, h.eh⟩
set_option maxHeartbeats 2000000 in
theorem new_ok {kind n wd : Nat} (hk : kind ≤ 2) (hn : 1 ≤ n ∧ n ≤ 8) (hw : 1 ≤ wd ∧ wd ≤ 4) (w : World) :
    Calls Tryz.prog 9 #[.int .i64 (kind : Int), .int .i64 (n : Int), .int .i64 (wd : Int)] w fun e w' => ∃ b : Bk, e = .returned (.tuple #[mp b, .int .i64 0]) ∧ b.X = w.heap.size ∧ XM w' b (newM kind n wd) 8 ∧ Ch [] w w' := by
  obtain ⟨w1, hw1⟩ : ∃ w1, w1 = w.alloc (.cells #[.int .i64 (kind : Int), .int .i64 (n : Int), .int .i64 (wd : Int), .bool false, .pointer none, .pointer none, .pointer none] 80) := ⟨_, rfl⟩
  have hz1 : w1.heap.size = w.heap.size + 1 := by rw [hw1]; simp
  have HB1 := Lib.hid (show HB w1 w.heap.size 80 #[.int .i64 (kind : Int), .int .i64 (n : Int), .int .i64 (wd : Int), .bool false, .pointer none, .pointer none, .pointer none] by rw [hw1]; exact HB.new w _ _)
  have HC1 := Lib.hid (show Ch [] w w1 by rw [hw1]; exact (Ch.refl [] w).alloc _)
  have HA := Lib.hid (aE.new_any' (2 * n) w1 (w.heap.size + 1) hz1 (by omega) (by omega))
  have hmul : IntKind.i64.wrap (2 * (n : Int)) = ((2 * n : Nat) : Int) := by rw [IntWalk.i64_in _ (by omega)]; omega
  obtain ⟨m, hm⟩ : ∃ m, m = 2 * n := ⟨_, rfl⟩
  rw [← hm] at hmul HA
  have HM := Lib.hid hm
  have HW := Lib.hid hw1
  have HZ1 := Lib.hid hz1
  have HK := Lib.hid hk
  have HN := Lib.hid hn
  have HWd := Lib.hid hw
  have k1 : ¬ ((kind : Int) < 0) := by omega
  have k2 : ¬ ((2 : Int) < (kind : Int)) := by omega
  have k2' : ¬ (2 < kind) := by omega
  have n1 : ¬ ((n : Int) < 1) := by omega
  have n2 : ¬ ((8 : Int) < (n : Int)) := by omega
  have n2' : ¬ (8 < n) := by omega
  have v1 : ¬ ((wd : Int) < 1) := by omega
  have v2 : ¬ ((4 : Int) < (wd : Int)) := by omega
  have v2' : ¬ (4 < wd) := by omega
  clear hw1 hm hk hn hw hz1
  go_enter Tryz.func9, Tryz.ntmps9
  go_wp2_with fail
  rw [← HW.out]
  with_reducible refine HA.out.mono ?_
  rintro e w2 ⟨Ra, rfl, ha2, hb2, hg, hra⟩
  have HC2 := Lib.hid (show Ch [] w1 w2 from Ch.of_below (by rw [HZ1.out]; exact hb2))
  have hB2 := HB1.out.ch HC2.out (by simp)
  have HB2 := Lib.hid hB2
  have c4 := hB2.c 4 rfl
  have f4 := hB2.f 4
  obtain ⟨w3, hw3⟩ : ∃ w3, w3 = w2.setCell ⟨w.heap.size, 4, none⟩ (.pointer (some ⟨Ra, 0, none⟩)) := ⟨_, rfl⟩
  have HB3 := Lib.hid (show HB w3 w.heap.size 80 #[.int .i64 (kind : Int), .int .i64 (n : Int), .int .i64 (wd : Int), .bool false, .pointer (some ⟨Ra, 0, none⟩), .pointer none, .pointer none] by rw [hw3]; exact HB2.out.set 4 _)
  have HS3 := Lib.hid (show Ch [w.heap.size] w2 w3 by rw [hw3]; exact (Ch.refl [w.heap.size] w2).setCell (p := ⟨w.heap.size, 4, none⟩) (by simp) _)
  have HA3 := Lib.hid (ha2.ch HS3.out (by simp; omega) (by simp))
  have HRa := Lib.hid (show w.heap.size + 1 < Ra ∧ Ra < w3.heap.size from ⟨hg, Nat.lt_of_lt_of_le hra HS3.out.size⟩)
  have HW3 := Lib.hid hw3
  have HT := Lib.hid (show Calls Tryz.prog 36 #[.int .i64 8, .int .i64 (n : Int)] w3 fun r w' => ∃ R, r = .returned (.tuple #[.pointer (some ⟨R, 0, none⟩), .int .i64 0]) ∧ bH.TB w' w3.heap.size R w3.heap.size 8 n (fun _ => .slice none 0 0) [] ∧ Ch [] w3 w' from bH.new_ok 8 n w3 (by omega) (by have := HN.out; omega))
  clear hB2 hw3 ha2 hb2 hg hra HA
  go_wp2_with fail
  rw [← HW3.out]
  with_reducible refine HT.out.mono ?_
  rintro e w4 ⟨Rt, rfl, ht4, hc4⟩
  have hB4 := HB3.out.ch hc4 (by simp)
  have c5 := hB4.c 5 rfl
  have f5 := hB4.f 5
  obtain ⟨w5, hw5⟩ : ∃ w5, w5 = w4.setCell ⟨w.heap.size, 5, none⟩ (.pointer (some ⟨Rt, 0, none⟩)) := ⟨_, rfl⟩
  have HB5 := Lib.hid (show HB w5 w.heap.size 80 #[.int .i64 (kind : Int), .int .i64 (n : Int), .int .i64 (wd : Int), .bool false, .pointer (some ⟨Ra, 0, none⟩), .pointer (some ⟨Rt, 0, none⟩), .pointer none] by rw [hw5]; exact hB4.set 5 _)
  have HS5 := Lib.hid (show Ch [w.heap.size] w4 w5 by rw [hw5]; exact (Ch.refl [w.heap.size] w4).setCell (p := ⟨w.heap.size, 5, none⟩) (by simp) _)
  have HA5 := Lib.hid ((HA3.out.ch hc4 (by simp) (by simp)).ch HS5.out (by simp; have := HRa.out; omega) (by simp))
  have HRt := Lib.hid (show w3.heap.size ≤ Rt ∧ Rt ≠ w3.heap.size ∧ Rt < w4.heap.size ∧ w3.heap.size < w4.heap.size from ⟨ht4.rS, tb_apart ht4, ht4.lt.1, ht4.lt.2.1⟩)
  have HT5 := Lib.hid (tb_away ht4 HS5.out (fun k hk => by simp at hk; left; have := HRa.out; omega))
  have HW5 := Lib.hid hw5
  have hx3 := HRa.out
  have hC5 : Ch [] w w5 := by
    have h3 : Ch [] w w3 := (HC1.out.trans HC2.out).fresh HS3.out (by simp)
    exact (h3.trans hc4).fresh HS5.out (by simp)
  have HC5 := Lib.hid hC5
  clear hB4 hw5 ht4 hc4 HT hC5 c4 f4
  by_cases h2 : kind = 2
  · subst h2
    have HO := Lib.hid (oU.new_ok n w5 w5.heap.size rfl HN.out.1 (by have := HN.out; omega))
    go_wp2_with fail
    rw [← HW5.out]
    with_reducible refine HO.out.mono ?_
    rintro e w6 ⟨rfl, ho6, hc6, hz6⟩
    have hB6 := HB5.out.ch hc6 (by simp)
    have c6 := hB6.c 6 rfl
    have f6 := hB6.f 6
    obtain ⟨w7, hw7⟩ : ∃ w7, w7 = w6.setCell ⟨w.heap.size, 6, none⟩ (.pointer (some ⟨w5.heap.size + 1, 0, none⟩)) := ⟨_, rfl⟩
    have HS7 := Lib.hid (show Ch [w.heap.size] w6 w7 by rw [hw7]; exact (Ch.refl [w.heap.size] w6).setCell (p := ⟨w.heap.size, 6, none⟩) (by simp) _)
    have hz7 : w7.heap.size = w5.heap.size + 2 := by rw [hw7, ← hz6]; simp [World.setCell]
    have hB7 : HB w7 w.heap.size 80 #[.int .i64 ((2 : Nat) : Int), .int .i64 (n : Int), .int .i64 (wd : Int), .bool false, .pointer (some ⟨Ra, 0, none⟩), .pointer (some ⟨Rt, 0, none⟩), .pointer (some ⟨w5.heap.size + 1, 0, none⟩)] := by rw [hw7]; exact hB6.set 6 _
    have hs45 := HS5.out.size
    have hr := HRt.out
    have ha := HRa.out
    have HM7 := Lib.hid (show XM w7 ⟨w.heap.size, w.heap.size + 1, Ra, w3.heap.size, Rt, w3.heap.size, w5.heap.size, w5.heap.size + 2⟩ (newM 2 n wd) 8 from by
      refine (XM.mono (N := 0) ⟨new_wf (by omega) HN.out HWd.out, hB7, ?_, ⟨_, tb_away (HT5.out.quiet hc6) HS7.out (fun k hk => by simp at hk; left; show k < w3.heap.size; omega)⟩, fun _ => ⟨[], 0, rfl, Nat.le_refl _, ho6.ch HS7.out (by simp; omega) (by simp; omega)⟩, ⟨?_, ?_, ?_, ?_, ?_, ?_, ?_, ?_, ?_⟩, ?_⟩ (by omega))
      · have := (HA5.out.ch hc6 (by simp) (by simp)).ch HS7.out (by simp; omega) (by simp)
        rw [HM.out] at this
        exact this
      all_goals (simp only; omega))
    have HC7 := Lib.hid ((HC5.out.trans hc6).fresh HS7.out (by simp))
    have HW7 := Lib.hid hw7
    clear hB6 hB7 hw7 hz7 hs45 hr ha ho6 hc6 hz6 HO
    go_wp2
    rw [← HW7.out]
    go_ret2
    exact ⟨_, rfl, rfl, HM7.out, HC7.out⟩
  · have hs45 := HS5.out.size
    have hr := HRt.out
    have ha := HRa.out
    have hkk : ¬ (kind : Int) = 2 := by omega
    have HB' := Lib.hid (show ∃ b : Bk, b.X = w.heap.size ∧ XP w5 b ⟨kind, n, wd, false, aE.fresh (2 * n), [], []⟩ 8 [] [] from by
      refine ⟨⟨w.heap.size, w.heap.size + 1, Ra, w3.heap.size, Rt, w3.heap.size, w3.heap.size, w5.heap.size⟩, rfl, ⟨?_, ?_, ⟨_, HT5.out⟩, fun e => absurd e h2, ⟨?_, ?_, ?_, ?_, ?_, ?_, ?_, ?_, ?_⟩, ?_⟩⟩
      · have := HB5.out
        unfold mapC usP
        rw [if_neg h2]
        exact this
      · have := HA5.out
        rw [HM.out] at this
        exact this
      all_goals (simp only; omega))
    obtain ⟨b, hbX, hxp⟩ := HB'.out
    have HX := Lib.hid hbX
    have HMb := Lib.hid (hxp.xm (base_wf HK.out HN.out HWd.out))
    clear HB' hs45 hr ha hbX hxp
    by_cases h0 : kind = 0
    · subst h0
      have hcv : IntKind.u64.wrap (n : Int) = (n : Int) := by rw [IntWalk.u64_in _ (by have := HN.out; omega)]
      go_wp2_with fail
      rw [← HW5.out]
      go_loopw [67] (fun iv wr => ∃ i : Nat, i ≤ n ∧ iv = .int .u64 (i : Int) ∧ XM wr b (arrM n wd i) 8 ∧ Ch [] w wr) (fun iv _ => n - (intOf iv).toNat)
      case atStart =>
        refine ⟨0, Nat.zero_le _, rfl, ?_, HC5.out⟩
        have := HMb.out
        rw [← arrX_zero] at this
        exact this
      case round =>
        obtain ⟨i, hin, rfl, hm, hc⟩ := hrel
        by_cases hlt : i < n
        · have hL := link_any hm.xp ⟨i, z4⟩ (wf64 (show i < 18446744073709551616 by have := HN.out; omega)) (by rw [show (arrM n wd i).tb = arrT i from rfl, arrT_ks]; exact Nat.lt_irrefl i) (by rw [show (arrM n wd i).tb = arrT i from rfl, arrT_len]; exact hlt) (fun e => absurd (show (0 : Nat) = 2 from e) (by omega)) (by decide)
          rw [show mp b = .pointer (some ⟨w.heap.size, 0, none⟩) by unfold mp; rw [HX.out]] at hL
          have HL := Lib.hid hL
          have HMi := Lib.hid hm
          have HCi := Lib.hid hc
          have HXi := Lib.hid (show i < 8 by have := HN.out; omega)
          have hil : (i : Int) < (n : Int) := by omega
          have hwi : IntKind.u64.wrap ((i : Int) + 1) = (i : Int) + 1 := by rw [IntWalk.u64_in _ (by have := HXi.out; omega)]
          clear hL hm hc
          go_wp2_with fail
          refine HL.out.mono ?_
          rintro e w9 ⟨rfl, hp9, hx9⟩
          have HM9 := Lib.hid (show XM w9 b (arrM n wd (i + 1)) (8 + 1) by
            have e := (linkM_eq (arrM n wd i) ⟨i, z4⟩).symm.trans (arr_link (wd := wd) hlt)
            have hwf := arr_wf HN.out HWd.out (i + 1) (by omega)
            rw [← e] at hwf ⊢
            exact hp9.xm hwf)
          have HC9 := Lib.hid (hx9.ch HCi.out (by rw [HX.out]; exact Nat.le_refl _))
          clear hp9 hx9 HL
          go_wp2
          go_roundw
          case rel => exact ⟨i + 1, by omega, by go_num, HM9.out.anyN (fun e => absurd (show (0 : Nat) = 2 from e) (by omega)) 8, HC9.out⟩
          case measure => simp [intOf]; omega
        · obtain rfl : i = n := by omega
          have HMi := Lib.hid hm
          have HCi := Lib.hid hc
          clear hm hc
          go_wp2
          go_ret2
          exact ⟨b, by unfold mp; rw [HX.out]; rfl, HX.out, by rw [show newM 0 i wd = arrM i wd i from if_pos rfl]; exact HMi.out, HCi.out⟩
    · have hkk0 : ¬ (kind : Int) = 0 := by omega
      go_wp2
      rw [← HW5.out]
      go_ret2
      exact ⟨b, by unfold mp; rw [HX.out]; rfl, HX.out, by rw [show newM kind n wd = _ from if_neg h0]; exact HMb.out, HC5.out⟩
end Go.Proofs.YtalhlopjaijhcaaGreat

namespace Go.Proofs.YtalhlopjaijhcaaGreat
open Go.RowKit

attribute [local go_sem] Oper.semAt_some

/-- A map of a law's own. -/
structure ML (w0 w : World) (b : Bk) (s : MS) (N : Nat) : Prop where
  m : XM w b s N
  c : Ch [] w0 w
  x : w0.heap.size ≤ b.X
/-- What a find makes of a map. -/
def findM (s : MS) (k : Nat) : MS := if (valE s.tb k).isSome = true then useM s k else s
section
variable {w0 w w' : World} {b : Bk} {s s' : MS} {N M : Nat}
theorem ML.quiet (h : ML w0 w b s N) (hc : Ch [] w w') : ML w0 w' b s N := ⟨h.m.quiet hc, h.c.trans hc, h.x⟩
theorem ML.step (h : ML w0 w b s N) (hm : XM w' b s' M) (hx : Xn b w w') : ML w0 w' b s' M := ⟨hm, hx.ch h.c h.x, h.x⟩
theorem ML.eh (h : ML w0 w b s N) : b.Eh ≤ w.heap.size := h.m.eh
theorem ML.mono (h : ML w0 w b s N) (hm : N ≤ M) : ML w0 w b s M := ⟨h.m.mono hm, h.c, h.x⟩
theorem ml_new {kind n wd : Nat} (hk : kind ≤ 2) (hn : 1 ≤ n ∧ n ≤ 8) (hw : 1 ≤ wd ∧ wd ≤ 4) (hc : Ch [] w0 w) :
    Calls Tryz.prog 9 #[.int .i64 (kind : Int), .int .i64 (n : Int), .int .i64 (wd : Int)] w fun e w' => ∃ b : Bk, e = .returned (.tuple #[mp b, .int .i64 0]) ∧ ML w0 w' b (newM kind n wd) 8 ∧ Ch [] w w' := by
  refine (new_ok hk hn hw w).mono ?_
  rintro e w' ⟨b, rfl, hX, hM, hc'⟩
  exact ⟨b, rfl, ⟨hM, hc.trans hc', by rw [hX]; exact hc.size⟩, hc'⟩
theorem ML.put (h : ML w0 w b s N) (how : Int) {k : Nat} (hk : k < 18446744073709551616) (a : Option Addr) (cap : Nat) (l : List Nat) (hl : l.length ≤ 1000) (hW : WA w a l) (hN : N ≤ 1000) :
    Calls Tryz.prog 26 #[mp b, .int .i64 how, .int .u64 (k : Int), .slice a l.length cap] w fun e w' => e = .returned (.tuple #[paV (putM s how k l).2, .int .i64 (putM s how k l).2.e]) ∧ ML w0 w' b (putM s how k l).1 (N + 1) ∧ Xn b w w' := by
  refine (put_any h.m how (wf64 hk) a cap l hl hW (by omega)).mono ?_
  rintro e w' ⟨rfl, hm, hx⟩
  exact ⟨rfl, h.step hm hx, hx⟩
theorem find_val {s : MS} (h : WF s) (h2 : s.kind = 2) {k : Nat} {y : Int × Int} (hv : valE s.tb k = some y) : k ∈ s.us := (h.us2 h2 k).2 (ksE_mem.2 ⟨_, val_some hv, rfl⟩)
theorem ML.find (h : ML w0 w b s N) {k : Nat} (hk : k < 18446744073709551616) (hN : N ≤ 1000) :
    Calls Tryz.prog 25 #[mp b, .int .u64 (k : Int)] w fun e w' => e = .returned (.tuple #[hdV (lookH s.tb k), .int .i64 (lookE s.tb k)]) ∧ ML w0 w' b (findM s k) (N + 1) ∧ Xn b w w' := by
  unfold findM
  cases hv : valE s.tb k with
  | none =>
    obtain ⟨e1, e2⟩ := look_none hv
    refine (find_not h.m.xp hv).mono ?_
    rintro e w' ⟨rfl, hc⟩
    exact ⟨by rw [e1, e2], (h.quiet hc).mono (by omega), Xn.of_ch hc⟩
  | some y =>
    obtain ⟨e1, e2⟩ := look_some hv
    refine (find_in h.m.xp (wf64 hk) (fun h2 => find_val h.m.wf h2 hv) (by omega) hv).mono ?_
    rintro e w' ⟨rfl, hp, hx⟩
    have hw := h.m.wf.use (k := k) (fun _ => ksE_mem.2 ⟨_, val_some hv, rfl⟩)
    refine ⟨by rw [e1, e2], h.step ?_ hx, hx⟩
    rw [if_pos (show (some y).isSome = true from rfl)]
    rw [useM_eq] at hw ⊢
    exact hp.xm hw
theorem ML.look (h : ML w0 w b s N) (k : Nat) :
    Calls Tryz.prog 31 #[mp b, .int .u64 (k : Int)] w fun e w' => e = .returned (.tuple #[hdV (lookH s.tb k), .int .i64 (lookE s.tb k)]) ∧ ML w0 w' b s N ∧ Xn b w w' := by
  refine (look_any h.m.xp k).mono ?_
  rintro e w' ⟨rfl, hc⟩
  exact ⟨rfl, h.quiet hc, Xn.of_ch hc⟩
theorem ML.del (h : ML w0 w b s N) {k : Nat} (hk : k < 18446744073709551616) :
    Calls Tryz.prog 28 #[mp b, .int .u64 (k : Int)] w fun e w' => e = .returned (.tuple #[hdV (delM s k).2.1, .int .i64 (delM s k).2.2]) ∧ ML w0 w' b (delM s k).1 N ∧ Xn b w w' := by
  unfold delM
  by_cases h0 : s.kind = 0
  · rw [if_pos h0]
    refine (del_array h.m.xp h0 k).mono ?_
    rintro e w' ⟨rfl, hc⟩
    exact ⟨rfl, h.quiet hc, Xn.of_ch hc⟩
  · rw [if_neg h0]
    cases hv : valE s.tb k with
    | none =>
      refine (del_err h.m.xp h0 hv).mono ?_
      rintro e w' ⟨rfl, hc⟩
      exact ⟨rfl, h.quiet hc, Xn.of_ch hc⟩
    | some y =>
      refine (del_in h.m.xp h.m.wf.us0 h0 (wf64 hk) hv).mono ?_
      rintro e w' ⟨rfl, hp, hx⟩
      exact ⟨rfl, h.step (hp.xm (h.m.wf.unlink k)) hx, hx⟩
theorem ML.free (h : ML w0 w b s N) (hd : Int × Int) :
    Calls Tryz.prog 27 #[mp b, hdV hd] w fun e w' => e = .returned (.int .i64 (frM s hd).2) ∧ ML w0 w' b (frM s hd).1 N ∧ Xn b w w' := by
  refine (free_any h.m hd).mono ?_
  rintro e w' ⟨rfl, hm, hx⟩
  exact ⟨rfl, h.step hm hx, hx⟩
theorem ML.load (h : ML w0 w b s N) (hd : Int × Int) (i : Int) :
    Calls Tryz.prog 29 #[mp b, hdV hd, .int .i64 i] w fun e w' => e = .returned (.tuple #[.int .u64 ((loadM s hd i).1 : Int), .int .i64 (loadM s hd i).2]) ∧ ML w0 w' b s N ∧ Xn b w w' := by
  refine (load_any h.m.xp h.m.wf.hw.2 hd i).mono ?_
  rintro e w' ⟨rfl, hp, hx⟩
  exact ⟨rfl, h.step (hp.xm h.m.wf) hx, hx⟩
theorem store_wf (hw : WF s) (hd : Int × Int) (i : Int) (u : Nat) : WF (storeM s hd i u).1 := by
  unfold storeM
  split
  · exact hw
  · split
    · exact hw
    · exact hw.set hd _ (fun _ => rfl)
theorem store_same (s : MS) (hd : Int × Int) (i : Int) (u : Nat) : (storeM s hd i u).1.tb = s.tb ∧ (storeM s hd i u).1.us = s.us := by
  unfold storeM
  split
  · exact ⟨rfl, rfl⟩
  · split <;> exact ⟨rfl, rfl⟩
theorem ML.store (h : ML w0 w b s N) (hd : Int × Int) (i : Int) (u : Nat) :
    Calls Tryz.prog 30 #[mp b, hdV hd, .int .i64 i, .int .u64 (u : Int)] w fun e w' => e = .returned (.int .i64 (storeM s hd i u).2) ∧ ML w0 w' b (storeM s hd i u).1 N ∧ Xn b w w' := by
  refine (store_any h.m.xp h.m.wf.hw.2 hd i u).mono ?_
  rintro e w' ⟨rfl, hp, hx⟩
  obtain ⟨e1, e2⟩ := store_same s hd i u
  rw [← e1, ← e2] at hp
  exact ⟨rfl, h.step (XM.of_xp hp (store_wf h.m.wf hd i u)) hx, hx⟩
theorem ML.key (h : ML w0 w b s N) (hd : Int × Int) :
    Calls Tryz.prog 23 #[mp b, hdV hd] w fun e w' => e = .returned (.tuple #[.int .u64 (keyM s hd : Int), .int .i64 (errM s hd)]) ∧ ML w0 w' b s N ∧ Xn b w w' := by
  refine (key_any h.m.xp hd).mono ?_
  rintro e w' ⟨rfl, hp, hx⟩
  exact ⟨rfl, h.step (hp.xm h.m.wf) hx, hx⟩
theorem ML.linked (h : ML w0 w b s N) (hd : Int × Int) :
    Calls Tryz.prog 24 #[mp b, hdV hd] w fun e w' => e = .returned (.bool (isLinked s hd)) ∧ ML w0 w' b s N ∧ Xn b w w' := by
  refine (linked_any h.m.xp hd).mono ?_
  rintro e w' ⟨rfl, hp, hx⟩
  exact ⟨rfl, h.step (hp.xm h.m.wf) hx, hx⟩
theorem ML.close (h : ML w0 w b s N) :
    Calls Tryz.prog 32 #[mp b] w fun e w' => ∃ v, e = .returned v ∧ w'.ownsRow w.heap.size 39 2 v (keysM s).length (hcs (closedH s)) ∧ ML w0 w' b (closeM s) N ∧ Xn b w w' := by
  refine (close_any h.m).mono ?_
  rintro e w' ⟨v, rfl, hr, hm, hx⟩
  exact ⟨v, rfl, hr, h.step hm hx, hx⟩
theorem ML.keys (h : ML w0 w b s N) :
    Calls Tryz.prog 14 #[mp b] w fun e w' => ∃ v, e = .returned v ∧ w'.ownsRow w.heap.size 40 1 v (keysM s).length (u64s (keysM s)) ∧ ML w0 w' b s N ∧ Ch [] w w' := by
  refine (keys_any h.m.xp h.m.wf.tnd (Nat.le_trans h.m.wf.tl h.m.wf.hn.2)).mono ?_
  rintro e w' ⟨v, rfl, hr, hc⟩
  exact ⟨v, rfl, hr, h.quiet hc, hc⟩
theorem ML.len (h : ML w0 w b s N) : Calls Tryz.prog 16 #[mp b] w fun e w' => e = .returned (.int .i64 (s.tb.length : Int)) ∧ w' = w := len_any h.m.xp
theorem ML.held (h : ML w0 w b s N) : Calls Tryz.prog 18 #[mp b] w fun e w' => e = .returned (.int .i64 (heldN s : Int)) ∧ Ch [] w w' := held_any h.m.xp
theorem ML.kind (h : ML w0 w b s N) : Calls Tryz.prog 19 #[mp b] w fun e w' => e = .returned (.int .i64 (s.kind : Int)) ∧ w' = w := kind_any h.m.xp
theorem ML.words (h : ML w0 w b s N) : Calls Tryz.prog 20 #[mp b] w fun e w' => e = .returned (.int .i64 (s.wd : Int)) ∧ w' = w := words_any h.m.xp
end
/-- Words of a row, as a slice shows them. -/
theorem own_WA {w : World} {B n : Nat} {a : Option Addr} {cap : Nat} {zs : List Nat} (h : w.ownsRow B 40 1 (.slice a n cap) n (u64s zs)) : n = zs.length ∧ WA w a zs := by
  have hl := h.1
  rw [u64s_len, Nat.mul_one] at hl
  refine ⟨hl.symm, ?_⟩
  rcases h.2 with ⟨e, h0⟩ | ⟨g, cap', cur, e, _⟩
  · cases e
    exact .inl (List.length_eq_zero_iff.1 (by omega))
  · cases e
    refine .inr ⟨g, 0, rfl, fun j k hj => ?_⟩
    have hlt := (List.getElem?_eq_some_iff.1 hj).1
    rw [Nat.zero_add, World.ownsRow.cellAt h j (by omega)]
    simp [u64s, hj]
theorem same_eq (a1 a2 : Option Addr) (cap1 cap2 : Nat) (zs : List Nat) {n : Nat} (hn : n = zs.length) (w : World) (hl : n ≤ 9223372036854775807) (h1 : WA w a1 zs) (h2 : WA w a2 zs) :
    Calls Tryz.prog 13 #[.slice a1 n cap1, .slice a2 n cap2] w fun e w' => e = .returned (.bool true) ∧ ∃ m, w' = w.drewN m := by
  have HN := Lib.hid hn
  have H1 := Lib.hid h1
  have H2 := Lib.hid h2
  clear hn h1 h2
  go_enter Tryz.func13, Tryz.ntmps13
  go_wp2
  go_loopw [5] (fun i wr => ∃ k m : Nat, k ≤ n ∧ i = .int .i64 (k : Int) ∧ wr = w.drewN m) (fun i _ => n - (intOf i).toNat)
  case atStart => exact ⟨0, 0, by omega, rfl, rfl⟩
  case round =>
    obtain ⟨k, m, hk, rfl, rfl⟩ := hrel
    by_cases hlt : k < n
    · rcases H1.out with h0 | ⟨b, off, rfl, hc⟩
      · exfalso; rw [HN.out, h0] at hlt; simp at hlt
      · rcases H2.out with h0 | ⟨b2, off2, rfl, hc2⟩
        · exfalso; rw [HN.out, h0] at hlt; simp at hlt
        · obtain ⟨z, hz⟩ : ∃ z, zs[k]? = some z := ⟨_, List.getElem?_eq_getElem (by rw [← HN.out]; exact hlt)⟩
          have hc := hc k z hz
          have hc2 := hc2 k z hz
          clear hz
          have hzz : ((z : Int) != (z : Int)) = false := by simp
          go_wp2
          go_quiet (fail)
          go_wp2
          go_roundw
          case rel => exact ⟨k + 1, _, by omega, by go_num, rfl⟩
          case measure => simp [intOf]; omega
    · go_wp2
      go_ret
      exact ⟨rfl, m, rfl⟩
theorem lit1_WA (W : World) (x : Nat) (t : TypeId) : WA (W.alloc (.cells #[.int .u64 (x : Int)] t)) (some ⟨W.heap.size, 0, none⟩) [x] := .inr ⟨_, 0, rfl, fun j k hj => by
  rw [World.cell?_alloc_at _ _ _ _ rfl]
  match j, hj with
  | 0, hj => simp at hj; subst hj; rfl
  | j + 1, hj => simp at hj⟩
theorem lit2_WA (W : World) (x y : Nat) (t : TypeId) : WA (W.alloc (.cells #[.int .u64 (x : Int), .int .u64 (y : Int)] t)) (some ⟨W.heap.size, 0, none⟩) [x, y] := .inr ⟨_, 0, rfl, fun j k hj => by
  rw [World.cell?_alloc_at _ _ _ _ rfl]
  match j, hj with
  | 0, hj => simp at hj; subst hj; rfl
  | 1, hj => simp at hj; subst hj; rfl
  | j + 2, hj => simp at hj⟩
end Go.Proofs.YtalhlopjaijhcaaGreat

namespace Go.Proofs.YtalhlopjaijhcaaGreat
open Go.RowKit

attribute [local go_sem] Oper.semAt_some

/-- The first map, behind each call. -/
def ka0 : MS := newM 2 2 1
def ka1 : MS := (putM ka0 0 5 [50]).1
def ka2 : MS := (putM ka1 0 6 [60]).1
def ka3 : MS := findM ka2 5
def ka4 : MS := (putM ka3 0 7 [70]).1
/-- The second. -/
def kb0 : MS := newM 1 1 1
def kb1 : MS := (putM kb0 0 5 [50]).1
def kb2 : MS := (putM kb1 0 6 []).1
def kb3 : MS := (delM kb2 5).1
def kb4 : MS := (putM kb3 0 6 []).1
def kb5 : MS := (delM kb4 6).1
theorem ka1_p : (putM ka1 0 6 [60]).2 = ⟨(1, 1), (0, 0), false, 0⟩ := by kernel_rfl
theorem ka3_p : (putM ka3 0 7 [70]).2 = ⟨(2, 1), (1, 1), true, 0⟩ := by kernel_rfl
theorem ka_keys : keysM ka4 = [5, 7] := by kernel_rfl
theorem ka_held : heldN ka4 = 3 := by kernel_rfl
theorem kb1_p : (putM kb1 0 6 []).2.e = 3 := by kernel_rfl
theorem kb3_p : (putM kb3 0 6 []).2.e = 0 := by kernel_rfl
theorem kb5_p : (putM kb5 0 7 []).2.e = 20 := by kernel_rfl

set_option maxHeartbeats 4000000 in
theorem known_any (w : World) : Calls Tryz.prog 10 #[] w fun e w' => e = .returned (.bool true) ∧ Ch [] w w' := by
  have HN := Lib.hid (show Calls Tryz.prog 9 #[.int .i64 2, .int .i64 2, .int .i64 1] w _ from ml_new (kind := 2) (n := 2) (wd := 1) (by omega) (by omega) (by omega) (Ch.refl [] w))
  have HN2 := Lib.hid (fun W (h : Ch [] w W) => show Calls Tryz.prog 9 #[.int .i64 1, .int .i64 1, .int .i64 1] W _ from ml_new (kind := 1) (n := 1) (wd := 1) (by omega) (by omega) (by omega) h)
  go_enter Tryz.func10, Tryz.ntmps10
  go_wp2_with fail
  with_reducible refine HN.out.mono ?_
  rintro e w1 ⟨b, rfl, h1, -⟩
  have HP := Lib.hid ((h1.quiet ((Ch.refl [] w1).alloc (.cells #[.int .u64 50] 40))).put 0 (k := 5) (by omega) (some ⟨w1.heap.size, 0, none⟩) 1 [50] (by decide) (lit1_WA w1 50 _) (by omega))
  have HE := Lib.hid h1.eh
  clear h1 HN
  go_wp2_with fail
  refine HP.out.mono ?_
  rintro e w2 ⟨rfl, h2, hx2⟩
  have HP2 := Lib.hid ((h2.quiet ((Ch.refl [] w2).alloc (.cells #[.int .u64 60] 40))).put 0 (k := 6) (by omega) (some ⟨w2.heap.size, 0, none⟩) 1 [60] (by decide) (lit1_WA w2 60 _) (by omega))
  clear h2 hx2 HP
  go_wp2_with fail
  refine HP2.out.mono ?_
  rintro e w3 ⟨rfl, h3, hx3⟩
  rw [show (putM (putM (newM 2 2 1) 0 5 [50]).1 0 6 [60]).2 = ⟨(1, 1), (0, 0), false, 0⟩ from ka1_p]
  have H4 := Lib.hid (h3.quiet ((Ch.refl [] w3).alloc (.cells (paC ⟨(1, 1), (0, 0), false, 0⟩) 62)))
  have HBp := Lib.hid (HB.new w3 62 (paC ⟨(1, 1), (0, 0), false, 0⟩))
  have HEp := Lib.hid (show b.Eh ≤ w3.heap.size from h3.eh)
  have HF := Lib.hid (H4.out.find (k := 5) (by omega) (by omega))
  clear h3 hx3 HP2
  go_wp2_with fail
  refine HF.out.mono ?_
  rintro e w5 ⟨rfl, h5, hx5⟩
  have HB5 := Lib.hid (hx5.hb HBp.out HEp.out (by decide) (by decide))
  have HP := Lib.hid ((h5.quiet ((Ch.refl [] w5).alloc (.cells #[.int .u64 70] 40))).put 0 (k := 7) (by omega) (some ⟨w5.heap.size, 0, none⟩) 1 [70] (by decide) (lit1_WA w5 70 _) (by omega))
  obtain ⟨X, hX⟩ : ∃ X, X = w3.heap.size := ⟨_, rfl⟩
  rw [← hX] at HB5 HEp ⊢
  clear h5 hx5 HF H4 HBp hX
  go_wp2_with fail
  refine HP.out.mono ?_
  rintro e w6 ⟨rfl, h6, hx6⟩
  rw [show (putM (findM (putM (putM (newM 2 2 1) 0 5 [50]).1 0 6 [60]).1 5) 0 7 [70]).2 = ⟨(2, 1), (1, 1), true, 0⟩ from ka3_p]
  have HB6 := Lib.hid (hx6.hb (HB5.out.alloc (.cells #[.int .u64 70] 40)) HEp.out (by decide) (by decide))
  obtain ⟨w7, hw7⟩ : ∃ w7, w7 = w6.alloc (.cells (paC ⟨(2, 1), (1, 1), true, 0⟩) 62) := ⟨_, rfl⟩
  have hc7 : Ch [] w6 w7 := by rw [hw7]; exact (Ch.refl [] w6).alloc _
  have hq7 : HB w7 w6.heap.size 62 (paC ⟨(2, 1), (1, 1), true, 0⟩) := by rw [hw7]; exact HB.new w6 _ _
  have HK := Lib.hid (h6.quiet hc7).keys
  have HW7 := Lib.hid hw7
  obtain ⟨q0, q1, q2, q3, q4⟩ := hq7.paCells
  obtain ⟨p0, p1, p2, p3, p4⟩ := (HB6.out.ch hc7 (by simp)).paCells
  rw [hw7] at q0 q1 q2 q3 q4 p0 p1 p2 p3 p4
  clear h6 hx6 HP hc7 hq7 hw7
  go_wp2_with fail
  rw [← HW7.out]
  refine HK.out.mono ?_
  rintro e w8 ⟨v, rfl, hr, h8, hc8⟩
  rw [show keysM (putM (findM (putM (putM (newM 2 2 1) 0 5 [50]).1 0 6 [60]).1 5) 0 7 [70]).1 = [5, 7] from ka_keys] at hr
  obtain ⟨a, cap, rfl⟩ := own_form hr
  have hk8 := (own_WA hr).2.ch ((Ch.refl [] w8).alloc (.cells #[.int .u64 5, .int .u64 7] 40))
  have HS := Lib.hid (same_eq a (some ⟨w8.heap.size, 0, none⟩) cap 2 [5, 7] (n := 2) rfl _ (by omega) hk8 (lit2_WA w8 5 7 40))
  have H8 := Lib.hid h8
  clear hr hc8 hk8 h8 HK q0 q1 q2 q3 q4 p0 p1 p2 p3 p4
  go_wp2_with fail
  refine HS.out.mono ?_
  rintro e w9 ⟨rfl, nq, hw9⟩
  have hc9 : Ch [] w8 w9 := by rw [hw9]; exact ((Ch.refl [] w8).alloc _).drewN nq
  have h9 := H8.out.quiet hc9
  have HH := h9.held
  rw [show heldN (putM (findM (putM (putM (newM 2 2 1) 0 5 [50]).1 0 6 [60]).1 5) 0 7 [70]).1 = 3 from ka_held] at HH
  have HH := Lib.hid HH
  have HC9 := Lib.hid h9.c
  clear hw9 hc9 h9 HS H8
  go_wp2_with fail
  refine HH.out.mono ?_
  rintro e w10 ⟨rfl, hc10⟩
  have HC10 := Lib.hid (HC9.out.trans hc10)
  have HNw := Lib.hid (HN2.out w10 HC10.out)
  clear hc10 HH HN2 HE HEp HB5 HB6
  go_wp2_with fail
  refine HNw.out.mono ?_
  rintro e w11 ⟨b2, rfl, h11, -⟩
  have HP := Lib.hid ((h11.quiet ((Ch.refl [] w11).alloc (.cells #[.int .u64 50] 40))).put 0 (k := 5) (by omega) (some ⟨w11.heap.size, 0, none⟩) 1 [50] (by decide) (lit1_WA w11 50 _) (by omega))
  clear h11 HNw
  go_wp2_with fail
  refine HP.out.mono ?_
  rintro e w12 ⟨rfl, h12, -⟩
  have HP2 := h12.put 0 (k := 6) (by omega) none 0 [] (by decide) (.inl rfl) (by omega)
  rw [show (putM (putM (newM 1 1 1) 0 5 [50]).1 0 6 []).2.e = 3 from kb1_p] at HP2
  have HP2 := Lib.hid HP2
  clear h12 HP
  go_wp2_with fail
  refine HP2.out.mono ?_
  rintro e w13 ⟨rfl, h13, -⟩
  generalize (putM (putM (newM 1 1 1) 0 5 [50]).1 0 6 []).2 = pa
  have HD := Lib.hid ((h13.quiet ((Ch.refl [] w13).alloc (.cells (paC pa) 62))).del (k := 5) (by omega))
  clear h13 HP2
  go_wp2_with fail
  refine HD.out.mono ?_
  rintro e w14 ⟨rfl, h14, -⟩
  have HP := h14.put 0 (k := 6) (by omega) none 0 [] (by decide) (.inl rfl) (by omega)
  rw [show (putM (delM (putM (putM (newM 1 1 1) 0 5 [50]).1 0 6 []).1 5).1 0 6 []).2.e = 0 from kb3_p] at HP
  have HP := Lib.hid HP
  clear h14 HD
  go_wp2_with fail
  refine HP.out.mono ?_
  rintro e w15 ⟨rfl, h15, -⟩
  generalize (putM (delM (putM (putM (newM 1 1 1) 0 5 [50]).1 0 6 []).1 5).1 0 6 []).2 = pb
  have HD := Lib.hid ((h15.quiet ((Ch.refl [] w15).alloc (.cells (paC pb) 62))).del (k := 6) (by omega))
  clear h15 HP
  go_wp2_with fail
  refine HD.out.mono ?_
  rintro e w16 ⟨rfl, h16, -⟩
  have HP := h16.put 0 (k := 7) (by omega) none 0 [] (by decide) (.inl rfl) (by omega)
  rw [show (putM (delM (putM (delM (putM (putM (newM 1 1 1) 0 5 [50]).1 0 6 []).1 5).1 0 6 []).1 6).1 0 7 []).2.e = 20 from kb5_p] at HP
  have HP := Lib.hid HP
  clear h16 HD
  go_wp2_with fail
  refine HP.out.mono ?_
  rintro e w17 ⟨rfl, h17, -⟩
  have HC := Lib.hid (fun o => h17.c.alloc o)
  clear h17 HP
  go_wp2
  go_ret
  exact ⟨by rfl, HC.out _⟩
end Go.Proofs.YtalhlopjaijhcaaGreat

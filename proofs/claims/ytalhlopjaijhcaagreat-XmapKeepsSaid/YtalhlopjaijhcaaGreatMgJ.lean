/-
  Several texts in one: A map: Put. · A map: Put, where nothing is wrong with the call. · A map: something is done with a handle's element.
-/
import Derived.Test.YtalhlopjaijhcaaGreatMgI
import Derived.Test.YtalhlopjaijhcaaGreatMgA
namespace Go.Proofs.YtalhlopjaijhcaaGreat
open Go.RowKit

attribute [local go_sem] Oper.semAt_some

/-- Words that lie in memory, as a slice shows them. -/
def WA (w : World) (a : Option Addr) (l : List Nat) : Prop := l = [] ∨ ∃ g off, a = some ⟨g, off, none⟩ ∧ ∀ (j x : Nat), l[j]? = some x → w.cell? ⟨g, off + j, none⟩ = some (.int .u64 (x : Int))
theorem WA.ch {w w' : World} {a : Option Addr} {l : List Nat} (h : WA w a l) (hc : Ch [] w w') : WA w' a l := by
  rcases h with h | ⟨g, off, rfl, h⟩
  · exact .inl h
  · exact .inr ⟨g, off, rfl, fun j x hx => (hc.cell (p := ⟨g, off + j, none⟩) (cell_lt (h j x hx)) (by simp)).trans (h j x hx)⟩
theorem uW : Tryz.prog.underlying 26 = some (.slice 40) := Tryz.underlying26
theorem szW : (Tryz.prog.info? 40).map (·.size) = some 1 := by kernel_rfl
theorem spl_words (k : Nat) (l : List Nat) (hl : l.length ≤ 4) : spl (aE.elC ⟨k, fun _ => 0⟩) 1 (u64s l) = aE.elC ⟨k, valOf l⟩ := by
  match l, hl with
  | [], _ => rfl
  | [_], _ => rfl
  | [_, _], _ => rfl
  | [_, _, _], _ => rfl
  | [_, _, _, _], _ => rfl
  | _ :: _ :: _ :: _ :: _ :: _, h => simp at h
/-- Words are copied into a value of zeros. -/
theorem copy_words {w : World} {B k : Nat} (hB : HB w B 84 (aE.elC ⟨k, fun _ => 0⟩)) (a : Option Addr) (cap : Nat) (l : List Nat) (hl : l.length ≤ 4) (hW : WA w a l) :
    ∃ w', (∀ ty, (Builtin.copy_ #[26, 26] ty #[.slice (some ⟨B, 1, none⟩) 4 4, .slice a l.length cap]).run Tryz.prog w = .ok (goInt l.length) w') ∧ HB w' B 84 (aE.elC ⟨k, valOf l⟩) ∧ Ch [B] w w' ∧ w'.heap.size = w.heap.size := by
  have hmin : Nat.min l.length 4 = l.length := Nat.min_eq_left hl
  cases a with
  | none =>
    obtain rfl : l = [] := by
      rcases hW with h | ⟨g, off, h, _⟩
      · exact h
      · cases h
    refine ⟨w, fun ty => ?_, ?_, Ch.refl _ _, rfl⟩
    · have hst := run_storeCells_cells (P := Tryz.prog) B 1 [] 0 w (by simp) (by simp) (by simp)
      have hz := szW
      cases hq : Tryz.prog.info? 40 with
      | none => rw [hq] at hz; cases hz
      | some i =>
        simp [Builtin.copy_, run_underlying uW, Builtin.lenOf, Builtin.firstCells, sizeOf, typeInfo, hq]
        rw [hst]
        rfl
    · have := spl_words k [] (by simp)
      rw [← this]
      exact hB
  | some p =>
    refine ⟨w.setCells B 1 (u64s l), fun ty => ?_, ?_, ch_setCells B (.inl (by simp)) _ 1 (Ch.refl _ _), ?_⟩
    · have hsrc : ∀ j v, (u64s l)[j]? = some v → w.cell? (p.add j) = some v := by
        intro j v hj
        rcases hW with h | ⟨g, off, h1, h2⟩
        · subst h; simp [u64s] at hj
        · cases h1
          rw [addr_add]
          unfold u64s at hj
          rw [List.getElem?_map] at hj
          cases hx : l[j]? with
          | none => rw [hx] at hj; cases hj
          | some x => rw [hx] at hj; simp at hj; rw [← hj]; exact h2 j x hx
      have := run_copy_blk (P := Tryz.prog) w 26 26 ty 40 1 B 1 4 4 p l.length cap (u64s l) uW szW hB (by rw [u64s_len]; simp; omega) (by rw [u64s_len, hmin, Nat.mul_one]) hsrc (u64s_one l)
      rw [this, hmin]
    · rw [← spl_words k l hl]
      exact heap_setCells (u64s l) w B 1 _ _ hB
    · have : ∀ (vs : List Value) (o : Nat) (W : World), (W.setCells B o vs).heap.size = W.heap.size := by
        intro vs
        induction vs with
        | nil => intro o W; rfl
        | cons v r ih => intro o W; rw [World.setCells, ih]; simp [World.setCell]
      exact this _ _ _

section
variable {w : World} {b : Bk} {s : MS} {N : Nat}
theorem putM_bad {s : MS} {how : Int} {k : Nat} {l : List Nat} (h : how < 0 ∨ 2 < how ∨ s.wd < l.length) : putM s how k l = (s, noPut 1) := by unfold putM; rw [if_pos h]
theorem putM_gone {s : MS} {how : Int} {k : Nat} {l : List Nat} (h : ¬ (how < 0 ∨ 2 < how ∨ s.wd < l.length)) (hc : s.cl = true) : putM s how k l = (s, noPut 22) := by unfold putM; rw [if_neg h, if_pos hc]

set_option maxHeartbeats 1000000 in
theorem put_bad (h : XM w b s N) (how : Int) (k : Nat) (a : Option Addr) (cap : Nat) (l : List Nat) (hl : l.length ≤ 1000) (hb : how < 0 ∨ 2 < how ∨ s.wd < l.length) :
    Calls Tryz.prog 26 #[mp b, .int .i64 how, .int .u64 (k : Int), .slice a l.length cap] w fun e w' => e = .returned (.tuple #[paV (noPut 1), .int .i64 1]) ∧ Ch [] w w' := by
  obtain ⟨w1, hw1⟩ : ∃ w1, w1 = w.alloc (.cells (paC noA) 62) := ⟨_, rfl⟩
  have hc1 : Ch [] w w1 := by rw [hw1]; exact (Ch.refl [] w).alloc _
  have HR1 := Lib.hid (show HB w1 w.heap.size 62 (paC noA) by rw [hw1]; exact HB.new w _ _)
  have HC1 := Lib.hid hc1
  have c2 := (h.xp.quiet hc1).cells.2.2.1
  have hwd := h.wf.hw
  have HW := Lib.hid hw1
  obtain ⟨n, hn⟩ : ∃ n, n = l.length := ⟨_, rfl⟩
  obtain ⟨m, hm⟩ : ∃ m, m = s.wd := ⟨_, rfl⟩
  rw [← hn, ← hm] at hb
  have hn1000 : n ≤ 1000 := by rw [hn]; exact hl
  rw [← hn]
  rw [← hm, hw1] at c2
  change (w.alloc (.cells #[.int .i64 0, .int .i64 0, .int .i64 0, .int .i64 0, .bool false] 62)).cell? _ = _ at c2
  clear h hn hc1 hw1 hwd hm
  by_cases h1 : how < 0
  · have hd1 : decide (how < 0) = true := decide_eq_true h1
    clear hb h1
    go_enter Tryz.func26, Tryz.ntmps26
    go_wp2
    have e9 := HW.out
    change w1 = w.alloc (.cells #[.int .i64 0, .int .i64 0, .int .i64 0, .int .i64 0, .bool false] _) at e9
    rw [← e9]
    clear e9
    obtain ⟨k0, k1, k2, k3, k4⟩ := HR1.out.paCells
    refine bodyPost_ret (v := .tuple #[paV (noPut 1), .int .i64 1]) ?_ rfl ⟨rfl, HC1.out⟩
    simp [results, Tryz.f26, go_sem, k0, k1, k2, k3, k4]
    exact ⟨rfl, rfl, rfl, rfl, rfl⟩
  have hd1 : decide (how < 0) = false := decide_eq_false h1
  by_cases h2 : 2 < how
  · have hd2 : decide (2 < how) = true := decide_eq_true h2
    clear hb h1 h2
    go_enter Tryz.func26, Tryz.ntmps26
    go_wp2
    have e9 := HW.out
    change w1 = w.alloc (.cells #[.int .i64 0, .int .i64 0, .int .i64 0, .int .i64 0, .bool false] _) at e9
    rw [← e9]
    clear e9
    obtain ⟨k0, k1, k2, k3, k4⟩ := HR1.out.paCells
    refine bodyPost_ret (v := .tuple #[paV (noPut 1), .int .i64 1]) ?_ rfl ⟨rfl, HC1.out⟩
    simp [results, Tryz.f26, go_sem, k0, k1, k2, k3, k4]
    exact ⟨rfl, rfl, rfl, rfl, rfl⟩
  have hd2 : decide (2 < how) = false := decide_eq_false h2
  have h3 : m < n := by omega
  have hd3 : decide ((m : Int) < (n : Int)) = true := by simpa using h3
  clear hb h1 h2
  go_enter Tryz.func26, Tryz.ntmps26
  go_wp2
  have e9 := HW.out
  change w1 = w.alloc (.cells #[.int .i64 0, .int .i64 0, .int .i64 0, .int .i64 0, .bool false] _) at e9
  rw [← e9]
  clear e9
  obtain ⟨k0, k1, k2, k3, k4⟩ := HR1.out.paCells
  refine bodyPost_ret (v := .tuple #[paV (noPut 1), .int .i64 1]) ?_ rfl ⟨rfl, HC1.out⟩
  simp [results, Tryz.f26, go_sem, k0, k1, k2, k3, k4]
  exact ⟨rfl, rfl, rfl, rfl, rfl⟩
theorem put_nil (how : Int) (k : Nat) (v : Value) (w : World) :
    Calls Tryz.prog 26 #[.pointer none, .int .i64 how, .int .u64 (k : Int), v] w fun e w' => e = .returned (.tuple #[paV (noPut 6), .int .i64 6]) ∧ Ch [] w w' := by
  obtain ⟨w1, hw1⟩ : ∃ w1, w1 = w.alloc (.cells (paC noA) 62) := ⟨_, rfl⟩
  have HR1 := Lib.hid (show HB w1 w.heap.size 62 (paC noA) by rw [hw1]; exact HB.new w _ _)
  have HC1 := Lib.hid (show Ch [] w w1 by rw [hw1]; exact (Ch.refl [] w).alloc _)
  have HW := Lib.hid hw1
  clear hw1
  go_enter Tryz.func26, Tryz.ntmps26
  go_wp2
  have e9 := HW.out
  change w1 = w.alloc (.cells #[.int .i64 0, .int .i64 0, .int .i64 0, .int .i64 0, .bool false] _) at e9
  rw [← e9]
  clear e9
  obtain ⟨k0, k1, k2, k3, k4⟩ := HR1.out.paCells
  refine bodyPost_ret (v := .tuple #[paV (noPut 6), .int .i64 6]) ?_ rfl ⟨rfl, HC1.out⟩
  simp [results, Tryz.f26, go_sem, k0, k1, k2, k3, k4]
  exact ⟨rfl, rfl, rfl, rfl, rfl⟩
set_option maxHeartbeats 1000000 in
theorem put_gone (h : XM w b s N) (how : Int) (k : Nat) (a : Option Addr) (cap : Nat) (l : List Nat) (hb : ¬ (how < 0 ∨ 2 < how ∨ s.wd < l.length)) (hcl : s.cl = true) :
    Calls Tryz.prog 26 #[mp b, .int .i64 how, .int .u64 (k : Int), .slice a l.length cap] w fun e w' => e = .returned (.tuple #[paV (noPut 22), .int .i64 22]) ∧ Ch [] w w' := by
  obtain ⟨w1, hw1⟩ : ∃ w1, w1 = w.alloc (.cells (paC noA) 62) := ⟨_, rfl⟩
  have hc1 : Ch [] w w1 := by rw [hw1]; exact (Ch.refl [] w).alloc _
  have HR1 := Lib.hid (show HB w1 w.heap.size 62 (paC noA) by rw [hw1]; exact HB.new w _ _)
  have HC1 := Lib.hid hc1
  have c2 := (h.xp.quiet hc1).cells.2.2.1
  have c3 := (h.xp.quiet hc1).cells.2.2.2.1
  rw [hcl] at c3
  have HW := Lib.hid hw1
  obtain ⟨n, hn⟩ : ∃ n, n = l.length := ⟨_, rfl⟩
  obtain ⟨m, hm⟩ : ∃ m, m = s.wd := ⟨_, rfl⟩
  rw [← hn, ← hm] at hb
  rw [← hn]
  rw [← hm, hw1] at c2
  rw [hw1] at c3
  change (w.alloc (.cells #[.int .i64 0, .int .i64 0, .int .i64 0, .int .i64 0, .bool false] 62)).cell? _ = _ at c2 c3
  clear h hn hc1 hw1 hcl hm
  have hd1 : decide (how < 0) = false := decide_eq_false (by omega)
  have hd2 : decide (2 < how) = false := decide_eq_false (by omega)
  have h3 : ¬ m < n := by omega
  have hd3 : decide ((m : Int) < (n : Int)) = false := by simpa using h3
  clear hb
  go_enter Tryz.func26, Tryz.ntmps26
  go_wp2
  have e9 := HW.out
  change w1 = w.alloc (.cells #[.int .i64 0, .int .i64 0, .int .i64 0, .int .i64 0, .bool false] _) at e9
  rw [← e9]
  clear e9
  obtain ⟨k0, k1, k2, k3, k4⟩ := HR1.out.paCells
  refine bodyPost_ret (v := .tuple #[paV (noPut 22), .int .i64 22]) ?_ rfl ⟨rfl, HC1.out⟩
  simp [results, Tryz.f26, go_sem, k0, k1, k2, k3, k4]
  exact ⟨rfl, rfl, rfl, rfl, rfl⟩
end
end Go.Proofs.YtalhlopjaijhcaaGreat

namespace Go.Proofs.YtalhlopjaijhcaaGreat
open Go.RowKit

attribute [local go_sem] Oper.semAt_some

section
variable {w : World} {b : Bk} {s : MS} {N : Nat}
theorem renewM_wf {s : MS} (h : WF s) {how : Int} {k : Nat} {y : Int × Int} (hv : valE s.tb k = some y) (v : Nat → Nat) : WF (renewM s how y ⟨k, v⟩).1 := by
  unfold renewM
  split
  · exact h
  · have hm := val_some hv
    obtain ⟨h1, h2⟩ := h.live _ hm
    exact (h.set y ⟨k, v⟩ (fun _ => h2.symm)).use (fun _ => ksE_mem.2 ⟨_, hm, rfl⟩)
theorem renewM_any (h : XM w b s N) (how : Int) {k : Nat} (hk : oU.wfK k) {y : Int × Int} (hv : valE s.tb k = some y) (v : Nat → Nat) (hn : N + 1 ≤ 9223372036854775807) :
    Calls Tryz.prog 59 #[mp b, .int .i64 how, hdV y, elV ⟨k, v⟩] w fun e w' => e = .returned (.tuple #[paV (renewM s how y ⟨k, v⟩).2, .int .i64 (renewM s how y ⟨k, v⟩).2.e]) ∧ XM w' b (renewM s how y ⟨k, v⟩).1 (N + 1) ∧ Xn b w w' := by
  have hwf := renewM_wf h.wf (how := how) hv v
  unfold renewM at hwf ⊢
  by_cases h1 : how = 1
  · subst h1
    rw [if_pos rfl]
    refine (renew_fresh ⟨k, v⟩ y (mp b)).mono ?_
    rintro e w' ⟨rfl, hc⟩
    exact ⟨rfl, (h.quiet hc).mono (Nat.le_succ _), Xn.of_ch hc⟩
  · rw [if_neg h1] at hwf ⊢
    have hm := val_some hv
    refine (renew_any h.xp h1 y ⟨k, v⟩ hk (fun e => .inl ((h.wf.us2 e _).2 (ksE_mem.2 ⟨_, hm, rfl⟩))) hn).mono ?_
    rintro e w' ⟨rfl, hp, hx⟩
    refine ⟨rfl, ?_, hx⟩
    rw [useM_eq] at hwf ⊢
    exact XM.of_xp (hp.state rfl rfl rfl rfl rfl) hwf
set_option maxRecDepth 100000 in
set_option maxHeartbeats 4000000 in
theorem put_go (h : XM w b s N) (how : Int) {k : Nat} (hk : oU.wfK k) (a : Option Addr) (cap : Nat) (l : List Nat) (hW : WA w a l) (hb : ¬ (how < 0 ∨ 2 < how ∨ s.wd < l.length)) (hcl : s.cl = false) (hn : N + 1 ≤ 9223372036854775807) :
    Calls Tryz.prog 26 #[mp b, .int .i64 how, .int .u64 (k : Int), .slice a l.length cap] w fun e w' => e = .returned (.tuple #[paV (putM s how k l).2, .int .i64 (putM s how k l).2.e]) ∧ XM w' b (putM s how k l).1 (N + 1) ∧ Xn b w w' := by
  have ep : putM s how k l = match valE s.tb k with
    | some h => renewM s how h ⟨k, valOf l⟩
    | none => addM s how ⟨k, valOf l⟩ := by
    unfold putM
    rw [if_neg hb, if_neg (by simp [hcl])]
    cases valE s.tb k <;> rfl
  rw [ep]
  clear ep
  obtain ⟨w1, hw1⟩ : ∃ w1, w1 = w.alloc (.cells (paC noA) 62) := ⟨_, rfl⟩
  obtain ⟨w2, hw2⟩ : ∃ w2, w2 = w1.alloc (.cells (aE.elC ⟨k, fun _ => 0⟩) 84) := ⟨_, rfl⟩
  have s1 : w1.heap.size = w.heap.size + 1 := by rw [hw1]; simp
  have hc1 : Ch [] w w1 := by rw [hw1]; exact (Ch.refl [] w).alloc _
  have hc2 : Ch [] w w2 := by rw [hw2]; exact hc1.alloc _
  have HR2 := Lib.hid (show HB w2 w.heap.size 62 (paC noA) by rw [hw2, hw1]; exact (HB.new w _ _).alloc _)
  obtain ⟨w3, hcp, hE3, hc3, hs3⟩ := copy_words (w := w2) (B := w.heap.size + 1) (k := k) (by rw [hw2, ← s1]; exact HB.new w1 _ _) a cap l (by have := h.wf.hw; omega) (hW.ch hc2)
  have hs2 : w2.heap.size = w.heap.size + 2 := by rw [hw2]; simp [s1]
  have hc23 : Ch [] w w3 := hc2.fresh hc3 (by simp)
  have HC3 := Lib.hid hc23
  have HE3 := Lib.hid hE3
  have HR3 := Lib.hid (HR2.out.ch hc3 (by simp))
  have H3 := Lib.hid (h.xp.quiet hc23)
  have HM3 := Lib.hid (fun W (hW : Ch [] w3 W) => h.quiet (hc23.trans hW))
  have HG := Lib.hid (bH.get_any (h.xp.quiet hc23).tg k)
  have HEh := Lib.hid h.eh
  have HWs := Lib.hid h.wf
  have c2 := (h.xp.quiet hc1).cells.2.2.1
  have c3 := (h.xp.quiet hc1).cells.2.2.2.1
  have c5 := (h.xp.quiet hc23).cells.2.2.2.2.2.1
  rw [hcl] at c3
  have HW := Lib.hid (And.intro hw1 hw2)
  have HL := Lib.hid (show l.length ≤ 4 by have := h.wf.hw; omega)
  obtain ⟨n, hn'⟩ : ∃ n, n = l.length := ⟨_, rfl⟩
  obtain ⟨m, hm⟩ : ∃ m, m = s.wd := ⟨_, rfl⟩
  rw [← hn', ← hm] at hb
  rw [← hn'] at hcp ⊢
  rw [← hm, hw1] at c2
  rw [hw1] at c3
  change (w.alloc (.cells #[.int .i64 0, .int .i64 0, .int .i64 0, .int .i64 0, .bool false] 62)).cell? _ = _ at c2 c3
  rw [hw2, hw1] at hcp
  change ∀ ty, (Builtin.copy_ _ ty _).run _ ((w.alloc (.cells #[.int .i64 0, .int .i64 0, .int .i64 0, .int .i64 0, .bool false] 62)).alloc (.cells #[.int .u64 (k : Int), .int .u64 0, .int .u64 0, .int .u64 0, .int .u64 0] 84)) = _ at hcp
  have hd1 : decide (how < 0) = false := decide_eq_false (by omega)
  have hd2 : decide (2 < how) = false := decide_eq_false (by omega)
  have h3 : ¬ m < n := by omega
  have hd3 : decide ((m : Int) < (n : Int)) = false := by simpa using h3
  obtain ⟨X, hX⟩ : ∃ X : El, X = ⟨k, valOf l⟩ := ⟨_, rfl⟩
  have HXk := Lib.hid hX
  rw [← hX] at HE3 ⊢
  clear h hc1 hc2 hc3 hs3 hc23 hE3 hw1 hw2 s1 hs2 hcl hb hn' hm hW hX
  cases hv : valE s.tb k with
  | some y =>
    rw [hv] at HG
    have HV := Lib.hid hv
    clear hv
    obtain ⟨p, q⟩ := y
    have HRen := fun W (hW : Ch [] w3 W) => renewM_any (HM3.out W hW) how hk HV.out (valOf l) hn
    rw [← HXk.out] at HRen
    dsimp only
    obtain ⟨E, hE⟩ : ∃ E, E = (renewM s how (p, q) X).2.e := ⟨_, rfl⟩
    rw [← hE] at HRen ⊢
    obtain ⟨pa, hpa⟩ : ∃ pa, pa = (renewM s how (p, q) X).2 := ⟨_, rfl⟩
    obtain ⟨t, ht⟩ : ∃ t, t = (renewM s how (p, q) X).1 := ⟨_, rfl⟩
    rw [← hpa, ← ht] at HRen ⊢
    have HRen := Lib.hid HRen
    clear hpa ht hE
    go_enter Tryz.func26, Tryz.ntmps26
    go_wp2_with (first | (at_builtin; refine wpList_copy_runI _ rfl _ _ 26 26 rfl _ _ rfl rfl (hcp _) ?_) | fail)
    with_reducible refine HG.out.mono ?_
    rintro e w4 ⟨rfl, hc⟩
    obtain ⟨w5, hw5⟩ : ∃ w5, w5 = w4.alloc (.cells #[.int .i64 p, .int .i64 q] 39) := ⟨_, rfl⟩
    have hc5 : Ch [] w3 w5 := by rw [hw5]; exact hc.alloc _
    have hH5 : HB w5 w4.heap.size 39 #[.int .i64 p, .int .i64 q] := by rw [hw5]; exact HB.new w4 _ _
    have hE5 := HE3.out.ch hc5 (by simp)
    have HR5 := Lib.hid (HR3.out.ch hc5 (by simp))
    have HX5 := Lib.hid ((Xn.of_ch (b := b) HC3.out).trans (Xn.of_ch hc5))
    have HT := Lib.hid (HRen.out w5 hc5)
    have e0 := hE5.c 0 rfl
    have e1 := hE5.c 1 rfl
    have e2 := hE5.c 2 rfl
    have e3 := hE5.c 3 rfl
    have e4 := hE5.c 4 rfl
    have g0 := hH5.c 0 rfl
    have g1 := hH5.c 1 rfl
    have HW5 := Lib.hid hw5
    rw [hw5] at e0 e1 e2 e3 e4 g0 g1
    clear hc hw5 hc5 hH5 hE5 HG c2 c3 c5 hcp HRen
    simp only [Option.getD_some, Option.isSome_some]
    go_wp2_with fail
    rw [← HW5.out]
    with_reducible refine HT.out.mono ?_
    rintro e w6 ⟨rfl, hm, hx⟩
    clear HT e0 e1 e2 e3 e4 g0 g1
    have HP := Lib.hid hm
    have hr := hx.hb HR5.out HEh.out (by decide) (by decide)
    have HR6 := Lib.hid hr
    have HX6 := Lib.hid ((HX5.out).trans hx)
    obtain ⟨d0, d1, d2, d3, d4, f0, f1, f2, f3, f4⟩ := hr.paAt pa
    simp only [noA] at d0 d1 d2 d3 d4
    clear hm hx hr
    go_wp2
    clear d0 d1 d2 d3 d4
    have hb := HR6.out.stP pa
    have HP9 := Lib.hid (XM.of_xp (HP.out.xp.stP HR6.out HEh.out pa) HP.out.wf)
    have HX9 := Lib.hid (HX6.out.stP (B := w.heap.size) (Nat.le_refl _) pa)
    obtain ⟨k0, k1, k2, k3, k4⟩ := hb.paCells
    change bodyPost _ _ _ _ _ (stP _ w.heap.size pa)
    clear hb
    generalize stP _ w.heap.size pa = w9 at *
    refine bodyPost_ret (v := .tuple #[paV pa, .int .i64 E]) ?_ rfl ⟨rfl, HP9.out, HX9.out⟩
    simp [results, Tryz.f26, go_sem, k0, k1, k2, k3, k4]
  | none =>
    rw [hv] at HG
    have HV := Lib.hid hv
    have hno := val_none.1 hv
    clear hv
    have HRen := fun W (hW : Ch [] w3 W) => add_any (HM3.out W hW) how X (by rw [HXk.out]; exact hk) (by rw [HXk.out]; exact hno) hn
    clear hno
    dsimp only
    obtain ⟨E, hE⟩ : ∃ E, E = (addM s how X).2.e := ⟨_, rfl⟩
    rw [← hE] at HRen ⊢
    obtain ⟨pa, hpa⟩ : ∃ pa, pa = (addM s how X).2 := ⟨_, rfl⟩
    obtain ⟨t, ht⟩ : ∃ t, t = (addM s how X).1 := ⟨_, rfl⟩
    rw [← hpa, ← ht] at HRen ⊢
    have HRen := Lib.hid HRen
    clear hpa ht hE
    go_enter Tryz.func26, Tryz.ntmps26
    go_wp2_with (first | (at_builtin; refine wpList_copy_runI _ rfl _ _ 26 26 rfl _ _ rfl rfl (hcp _) ?_) | fail)
    with_reducible refine HG.out.mono ?_
    rintro e w4 ⟨rfl, hc⟩
    obtain ⟨w5, hw5⟩ : ∃ w5, w5 = w4.alloc (.cells #[.int .i64 0, .int .i64 0] 39) := ⟨_, rfl⟩
    have hc5 : Ch [] w3 w5 := by rw [hw5]; exact hc.alloc _
    have hE5 := HE3.out.ch hc5 (by simp)
    have HR5 := Lib.hid (HR3.out.ch hc5 (by simp))
    have HX5 := Lib.hid ((Xn.of_ch (b := b) HC3.out).trans (Xn.of_ch hc5))
    have HT := Lib.hid (HRen.out w5 hc5)
    have e0 := hE5.c 0 rfl
    have e1 := hE5.c 1 rfl
    have e2 := hE5.c 2 rfl
    have e3 := hE5.c 3 rfl
    have e4 := hE5.c 4 rfl
    have HW5 := Lib.hid hw5
    rw [hw5] at e0 e1 e2 e3 e4
    clear hc hw5 hc5 hE5 HG c2 c3 c5 hcp HRen
    simp only [Option.getD_none, Option.isSome_none, bH.v0]
    go_wp2_with fail
    rw [← HW5.out]
    with_reducible refine HT.out.mono ?_
    rintro e w6 ⟨rfl, hm, hx⟩
    clear HT e0 e1 e2 e3 e4
    have HP := Lib.hid hm
    have hr := hx.hb HR5.out HEh.out (by decide) (by decide)
    have HR6 := Lib.hid hr
    have HX6 := Lib.hid ((HX5.out).trans hx)
    obtain ⟨d0, d1, d2, d3, d4, f0, f1, f2, f3, f4⟩ := hr.paAt pa
    simp only [noA] at d0 d1 d2 d3 d4
    clear hm hx hr
    go_wp2
    clear d0 d1 d2 d3 d4
    have hb := HR6.out.stP pa
    have HP9 := Lib.hid (XM.of_xp (HP.out.xp.stP HR6.out HEh.out pa) HP.out.wf)
    have HX9 := Lib.hid (HX6.out.stP (B := w.heap.size) (Nat.le_refl _) pa)
    obtain ⟨k0, k1, k2, k3, k4⟩ := hb.paCells
    change bodyPost _ _ _ _ _ (stP _ w.heap.size pa)
    clear hb
    generalize stP _ w.heap.size pa = w9 at *
    refine bodyPost_ret (v := .tuple #[paV pa, .int .i64 E]) ?_ rfl ⟨rfl, HP9.out, HX9.out⟩
    simp [results, Tryz.f26, go_sem, k0, k1, k2, k3, k4]
theorem put_any (h : XM w b s N) (how : Int) {k : Nat} (hk : oU.wfK k) (a : Option Addr) (cap : Nat) (l : List Nat) (hl : l.length ≤ 1000) (hW : WA w a l) (hn : N + 1 ≤ 9223372036854775807) :
    Calls Tryz.prog 26 #[mp b, .int .i64 how, .int .u64 (k : Int), .slice a l.length cap] w fun e w' => e = .returned (.tuple #[paV (putM s how k l).2, .int .i64 (putM s how k l).2.e]) ∧ XM w' b (putM s how k l).1 (N + 1) ∧ Xn b w w' := by
  by_cases hb : how < 0 ∨ 2 < how ∨ s.wd < l.length
  · rw [putM_bad hb]
    refine (put_bad h how k a cap l hl hb).mono ?_
    rintro e w' ⟨rfl, hc⟩
    exact ⟨rfl, (h.quiet hc).mono (Nat.le_succ _), Xn.of_ch hc⟩
  · cases hcl : s.cl with
    | true =>
      rw [putM_gone hb hcl]
      refine (put_gone h how k a cap l hb hcl).mono ?_
      rintro e w' ⟨rfl, hc⟩
      exact ⟨rfl, (h.quiet hc).mono (Nat.le_succ _), Xn.of_ch hc⟩
    | false => exact put_go h how hk a cap l hW hb hcl hn
end
end Go.Proofs.YtalhlopjaijhcaaGreat

namespace Go.Proofs.YtalhlopjaijhcaaGreat
open Go.RowKit

attribute [local go_sem] Oper.semAt_some

/-- What a call may turn, and one box besides. -/
structure Xk (b : Bk) (K : Nat) (w w' : World) : Prop where
  os : w'.os = w.os
  tape : w'.tape = w.tape
  output : w'.output = w.output
  size : w.heap.size ≤ w'.heap.size
  low : ∀ k, k < w.heap.size → k < b.X → k ≠ K → w'.heap[k]? = w.heap[k]?
  typ : ∀ (k : Nat) (o : Obj), b.Eh ≤ k → k ≠ K → w.heap[k]? = some o → (∀ cs fr, o ≠ .cells cs 170 fr) → (∀ cs fr, o ≠ .cells cs 154 fr) → w'.heap[k]? = some o
section
variable {b : Bk} {K : Nat} {w w' w2 a : World}
theorem Xk.of (h : Xn b w w') : Xk b K w w' := ⟨h.os, h.tape, h.output, h.size, fun k hk hx _ => h.low k hk hx, fun k o he _ hk h1 h2 => h.typ k o he hk h1 h2⟩
theorem Xk.trans (h : Xk b K w w') (k : Xk b K w' w2) : Xk b K w w2 :=
  ⟨k.os.trans h.os, k.tape.trans h.tape, k.output.trans h.output, Nat.le_trans h.size k.size, fun i hi hx hn => (k.low i (Nat.lt_of_lt_of_le hi h.size) hx hn).trans (h.low i hi hx hn), fun i o he hn hi h1 h2 => k.typ i o he hn (h.typ i o he hn hi h1 h2) h1 h2⟩
theorem Xk.hb (h : Xk b K w w') {B : Nat} {t : TypeId} {cs : Array Value} (hb : HB w B t cs) (hn : B ≠ K) (he : b.Eh ≤ B) (h1 : t ≠ 170) (h2 : t ≠ 154) : HB w' B t cs :=
  h.typ B _ he hn hb (fun cs fr e => by cases e; exact h1 rfl) (fun cs fr e => by cases e; exact h2 rfl)
theorem Xk.set (h : Xk b K w w') {p : Addr} (hp : p.block = K) (v : Value) : Xk b K w (w'.setCell p v) :=
  ⟨h.os, h.tape, h.output, by simpa [World.setCell] using h.size, fun k hk hx hn => (Below.heap_setCell _ p v k (by rw [hp]; exact hn)).trans (h.low k hk hx hn), fun k o he hn hk h1 h2 => (Below.heap_setCell _ p v k (by rw [hp]; exact hn)).trans (h.typ k o he hn hk h1 h2)⟩
/-- A box that the call itself has made. -/
theorem Xk.fresh (hc : Ch [] a w) (h : Xk b K w w') (hK : a.heap.size ≤ K) : Xn b a w' :=
  ⟨h.os.trans hc.os, h.tape.trans hc.tape, h.output.trans hc.output, Nat.le_trans hc.size h.size, fun k hk hx => (h.low k (Nat.lt_of_lt_of_le hk hc.size) hx (by omega)).trans (hc.block k hk (by simp)),
    fun k o he hk h1 h2 => h.typ k o he (by have := (Array.getElem?_eq_some_iff.1 hk).1; omega) ((hc.block k (Array.getElem?_eq_some_iff.1 hk).1 (by simp)).trans hk) h1 h2⟩
end
/-- .. and two boxes. -/
structure Xk2 (b : Bk) (K B : Nat) (w w' : World) : Prop where
  os : w'.os = w.os
  tape : w'.tape = w.tape
  output : w'.output = w.output
  size : w.heap.size ≤ w'.heap.size
  low : ∀ k, k < w.heap.size → k < b.X → k ≠ K → k ≠ B → w'.heap[k]? = w.heap[k]?
  typ : ∀ (k : Nat) (o : Obj), b.Eh ≤ k → k ≠ K → k ≠ B → w.heap[k]? = some o → (∀ cs fr, o ≠ .cells cs 170 fr) → (∀ cs fr, o ≠ .cells cs 154 fr) → w'.heap[k]? = some o
section
variable {b : Bk} {K B : Nat} {w w' w2 a : World}
theorem Xk.two (h : Xk b K w w') : Xk2 b K B w w' := ⟨h.os, h.tape, h.output, h.size, fun k hk hx hn _ => h.low k hk hx hn, fun k o he hn _ hk h1 h2 => h.typ k o he hn hk h1 h2⟩
theorem Xk2.hb (h : Xk2 b K B w w') {C : Nat} {t : TypeId} {cs : Array Value} (hb : HB w C t cs) (hn : C ≠ K) (hn2 : C ≠ B) (he : b.Eh ≤ C) (h1 : t ≠ 170) (h2 : t ≠ 154) : HB w' C t cs :=
  h.typ C _ he hn hn2 hb (fun cs fr e => by cases e; exact h1 rfl) (fun cs fr e => by cases e; exact h2 rfl)
theorem Xk2.pre (hc : Ch [] w w') (h : Xk2 b K B w' w2) : Xk2 b K B w w2 :=
  ⟨h.os.trans hc.os, h.tape.trans hc.tape, h.output.trans hc.output, Nat.le_trans hc.size h.size, fun k hk hx hn hn2 => (h.low k (Nat.lt_of_lt_of_le hk hc.size) hx hn hn2).trans (hc.block k hk (by simp)),
    fun k o he hn hn2 hk h1 h2 => h.typ k o he hn hn2 ((hc.block k (Array.getElem?_eq_some_iff.1 hk).1 (by simp)).trans hk) h1 h2⟩
theorem Xk2.fresh (hc : Ch [] a w) (h : Xk2 b K B w w') (hB : a.heap.size ≤ B) : Xk b K a w' :=
  ⟨h.os.trans hc.os, h.tape.trans hc.tape, h.output.trans hc.output, Nat.le_trans hc.size h.size, fun k hk hx hn => (h.low k (Nat.lt_of_lt_of_le hk hc.size) hx hn (by omega)).trans (hc.block k hk (by simp)),
    fun k o he hn hk h1 h2 => h.typ k o he hn (by have := (Array.getElem?_eq_some_iff.1 hk).1; omega) ((hc.block k (Array.getElem?_eq_some_iff.1 hk).1 (by simp)).trans hk) h1 h2⟩
theorem Xk2.setB (w : World) (o : Nat) (v : Value) : Xk2 b K B w (w.setCell ⟨B, o, none⟩ v) :=
  ⟨rfl, rfl, rfl, by simp [World.setCell], fun k _ _ _ hn => Below.heap_setCell _ ⟨B, o, none⟩ v k hn, fun k _ _ _ hn hk _ _ => (Below.heap_setCell _ ⟨B, o, none⟩ v k hn).trans hk⟩
end
section
variable {w : World} {b : Bk} {s : MS} {N : Nat} {tb : List (Ent (Int × Int))} {us : List Nat}
theorem with_nil (hd : Int × Int) (f : Value) (w : World) : Calls Tryz.prog 55 #[.pointer none, hdV hd, f] w fun e w' => e = .returned (.int .i64 6) ∧ Ch [] w w' := by
  have HC := Lib.hid ((Ch.refl [] w).alloc (.cells #[.int .i64 hd.1, .int .i64 hd.2] 39))
  go_enter Tryz.func55, Tryz.ntmps55
  go_wp2
  go_ret
  exact ⟨rfl, HC.out⟩

/-- What is so behind it. -/
def withP (w : World) (b : Bk) (s : MS) (N : Nat) (tb : List (Ent (Int × Int))) (us : List Nat) (hd : Int × Int) (E : Int) (x' : El) (K : Nat) (J : World → Prop) (e : Ending) (w' : World) : Prop :=
  (errM s hd ≠ 0 ∧ e = .returned (.int .i64 (errM s hd)) ∧ Ch [] w w') ∨
  (errM s hd = 0 ∧ e = .returned (.int .i64 E) ∧ XP w' b (if E = 0 then setM s hd x' else s) N tb us ∧ Xk b K w w' ∧ J w')
set_option maxRecDepth 100000 in
set_option maxHeartbeats 4000000 in
theorem with_any (h : XP w b s N tb us) (hd : Int × Int) (fid : Nat) (caps : Array Value) (E : Int) (x' : El) (K : Nat) (hK : K < w.heap.size) (I J : World → Prop)
    (hFe : ∀ args W, (callFunc fid args).run Tryz.prog W = .ok (.enter fid args) W) (hI : ∀ W W', I W → Ch [] W W' → I W') (hJ : ∀ W W', J W → Ch [b.Ga] W W' → J W') (h0 : I w)
    (hF : ∀ W B, HB W B 84 (aE.elC (elM s hd)) → b.Eh ≤ B → I W → XP W b s N tb us → Calls Tryz.prog fid (#[.pointer (some ⟨B, 0, none⟩)] ++ caps) W fun e W' => e = .returned (.int .i64 E) ∧ HB W' B 84 (aE.elC x') ∧ XP W' b s N tb us ∧ Xk2 b K B W W' ∧ J W') :
    Calls Tryz.prog 55 #[mp b, hdV hd, .func (.func fid) #[] caps] w (withP w b s N tb us hd E x' K J) := by
  obtain ⟨w1, hw1⟩ : ∃ w1, w1 = w.alloc (.cells #[.int .i64 hd.1, .int .i64 hd.2] 39) := ⟨_, rfl⟩
  have hc1 : Ch [] w w1 := by rw [hw1]; exact (Ch.refl [] w).alloc _
  have HC1 := Lib.hid hc1
  have HH1 := Lib.hid (show HB w1 w.heap.size 39 #[.int .i64 hd.1, .int .i64 hd.2] by rw [hw1]; exact HB.new w _ _)
  have H1 := Lib.hid (h.quiet hc1)
  have HI1 := Lib.hid (hI _ _ h0 hc1)
  have HEh := Lib.hid h.eh
  obtain ⟨⟨p, q⟩, hpq⟩ : ∃ y, y = hd := ⟨_, rfl⟩
  obtain ⟨Er, hEr⟩ : ∃ Er, Er = errM s hd := ⟨_, rfl⟩
  obtain ⟨x, hx⟩ : ∃ x, x = elM s hd := ⟨_, rfl⟩
  have HGet := Lib.hid (fun W (hW : Ch [] w1 W) => (show Calls Tryz.prog 84 #[.pointer (some ⟨b.Ra, 0, none⟩), hdV (p, q)] W fun e w' => e = .returned (.tuple #[elV x, .int .i64 Er]) ∧ Ch [] W w' from by
    have := aE.get_any (h.quiet (hc1.trans hW)).ar p q
    rw [hx, hEr, ← hpq]
    exact this))
  have HF := Lib.hid (fun W B (h1 : HB W B 84 (aE.elC x)) h2 h3 h4 => hF W B (by rw [← hx]; exact h1) h2 h3 h4)
  have HI := Lib.hid hI
  have HJ := Lib.hid hJ
  have HPq := Lib.hid hpq
  have HER := Lib.hid hEr
  rw [← hpq] at HH1 hw1
  rw [show hdV hd = hdV (p, q) by rw [hpq]]
  have HW := Lib.hid hw1
  have HFe := Lib.hid hFe
  have HKl := Lib.hid hK
  clear h hc1 hI hJ h0 hF hx hEr hpq hw1 hFe hK
  go_enter Tryz.func55, Tryz.ntmps55
  go_wp2_with fail
  rw [← HW.out]
  refine wp_mono (Q := fun e a' wq => e = .normal ∧ ∃ X7, b.Eh ≤ X7 ∧ w.heap.size < X7 ∧ a' = { tmps := #[mp b, hdV (p, q), .func (.func fid) #[] caps, undef, .pointer (some ⟨w.heap.size, 0, none⟩), undef, .int .i64 0, .pointer (some ⟨X7, 0, none⟩), .int .i64 Er, undef, mp b, .bool false, .tuple #[elV x, .int .i64 Er], mp b, mp b, .pointer (some ⟨b.X, 4, none⟩), .pointer (some ⟨b.Ra, 0, none⟩), hdV (p, q), .tuple #[elV x, .int .i64 Er], elV x, .int .i64 Er, undef, undef, undef, undef, undef, undef, undef, undef, undef, undef, undef, undef, undef, undef, undef], defers := [] } ∧ HB wq X7 84 (aE.elC x) ∧ HB wq w.heap.size 39 #[.int .i64 p, .int .i64 q] ∧ Ch [] w1 wq) ?reg ?post
  case reg =>
    have c4 := H1.out.cells.2.2.2.2.1
    have g0 := HH1.out.c 0 rfl
    have g1 := HH1.out.c 1 rfl
    refine wp_region_held_drew (S := fun w' => w'.cell? ⟨b.X, 4, none⟩ = some (.pointer (some ⟨b.Ra, 0, none⟩)) ∧ w'.cell? ⟨w.heap.size, 0, none⟩ = some (.int .i64 p) ∧ w'.cell? ⟨w.heap.size, 1, none⟩ = some (.int .i64 q)) (by kernel_rfl) ⟨c4, g0, g1⟩ (fun hHeld => ?_)
    refine wpAnyH_take (i := 0) (oi := { dst := some 13, op := _, type := _, pos := _, after := _, guard := _ }) (v := ?v1_0) rfl (by kernel_rfl) (by kernel_rfl) (by kernel_rfl) (by intro _ _ _ h; first | exact h | exact nomatch h.1) (.inl ⟨by rfl, ?h1_0⟩) (by assumption) ?_
    case h1_0 => intro w hSw; obtain ⟨hs0, hs1, hs2⟩ := hSw; go_simp; (try with_reducible rfl)
    try simp only [Act.put, List.setIfInBounds_toArray, List.set_cons_zero, List.set_cons_succ]
    refine wpAnyH_take (i := 1) (oi := { dst := some 14, op := _, type := _, pos := _, after := _, guard := _ }) (v := ?v2_1) rfl (by kernel_rfl) (by kernel_rfl) (by kernel_rfl) (by intro _ _ _ h; first | exact h | exact nomatch h.1) (.inl ⟨by rfl, ?h2_1⟩) (by assumption) ?_
    case h2_1 => intro w hSw; obtain ⟨hs0, hs1, hs2⟩ := hSw; go_simp; (try with_reducible rfl)
    try simp only [Act.put, List.setIfInBounds_toArray, List.set_cons_zero, List.set_cons_succ]
    refine wpAnyH_take (i := 2) (oi := { dst := some 15, op := _, type := _, pos := _, after := _, guard := _ }) (v := ?v3_2) rfl (by kernel_rfl) (by kernel_rfl) (by kernel_rfl) (by intro _ _ _ h; first | exact h | exact nomatch h.1) (.inl ⟨by rfl, ?h3_2⟩) (by assumption) ?_
    case h3_2 => intro w hSw; obtain ⟨hs0, hs1, hs2⟩ := hSw; go_simp; (try with_reducible rfl)
    try simp only [Act.put, List.setIfInBounds_toArray, List.set_cons_zero, List.set_cons_succ]
    refine wpAnyH_take (i := 3) (oi := { dst := some 16, op := _, type := _, pos := _, after := _, guard := _ }) (v := ?v4_3) rfl (by kernel_rfl) (by kernel_rfl) (by kernel_rfl) (by intro _ _ _ h; first | exact h | exact nomatch h.1) (.inl ⟨by rfl, ?h4_3⟩) (by assumption) ?_
    case h4_3 => intro w hSw; obtain ⟨hs0, hs1, hs2⟩ := hSw; go_simp; (try with_reducible rfl)
    try simp only [Act.put, List.setIfInBounds_toArray, List.set_cons_zero, List.set_cons_succ]
    refine wpAnyH_take (i := 4) (oi := { dst := some 17, op := _, type := _, pos := _, after := _, guard := _ }) (v := ?v5_4) rfl (by kernel_rfl) (by kernel_rfl) (by kernel_rfl) (by intro _ _ _ h; first | exact h | exact nomatch h.1) (.inl ⟨by rfl, ?h5_4⟩) (by assumption) ?_
    case h5_4 => intro w hSw; obtain ⟨hs0, hs1, hs2⟩ := hSw; go_simp; (try with_reducible rfl)
    try simp only [Act.put, List.setIfInBounds_toArray, List.set_cons_zero, List.set_cons_succ]
    clear c4 g0 g1
    refine wpAnyH_ready (rs := [5, 9]) (by kernel_rfl) (by simp) ?_
    refine AllReadyH.cons (o := { dst := some 18, op := _, type := _, pos := _, after := _, guard := _ }) rfl (fun K hK => ?_) (AllReadyH.cons (o := { dst := some 7, op := _, type := _, pos := _, after := _, guard := _ }) rfl (fun K hK => ?_) AllReadyH.nil)
    · skip
      go_simp
      with_reducible refine (HGet.out _ (Ch.refl [] w1).drew).mono ?_; rintro r w2 ⟨rfl, hc2'⟩; have hc2 : Ch [] w1 w2 := (Ch.refl [] w1).drew.trans hc2'; have HC2 := Lib.hid hc2
      refine hK.out _ _ ⟨(H1.out.quiet hc2).cells.2.2.2.2.1, (HH1.out.ch hc2 (by simp)).c 0 rfl, (HH1.out.ch hc2 (by simp)).c 1 rfl⟩ (fun hHeld => ?_)
      clear hK K
      try simp only [Act.put, List.setIfInBounds_toArray, List.set_cons_zero, List.set_cons_succ]
      clear hc2 hc2'
      refine wpAnyH_take (i := 6) (oi := { dst := some 12, op := _, type := _, pos := _, after := _, guard := _ }) (v := ?v6_6) rfl (by kernel_rfl) (by kernel_rfl) (by kernel_rfl) (by intro _ _ _ h; first | exact h | exact nomatch h.1) (.inl ⟨by rfl, ?h6_6⟩) (by assumption) ?_
      case h6_6 => intro w hSw; obtain ⟨hs0, hs1, hs2⟩ := hSw; go_simp; (try with_reducible rfl)
      try simp only [Act.put, List.setIfInBounds_toArray, List.set_cons_zero, List.set_cons_succ]
      refine wpAnyH_take (i := 7) (oi := { dst := some 19, op := _, type := _, pos := _, after := _, guard := _ }) (v := ?v7_7) rfl (by kernel_rfl) (by kernel_rfl) (by kernel_rfl) (by intro _ _ _ h; first | exact h | exact nomatch h.1) (.inl ⟨by rfl, ?h7_7⟩) (by assumption) ?_
      case h7_7 => intro w hSw; obtain ⟨hs0, hs1, hs2⟩ := hSw; go_simp; (try with_reducible rfl)
      try simp only [Act.put, List.setIfInBounds_toArray, List.set_cons_zero, List.set_cons_succ]
      refine wpAnyH_take (i := 8) (oi := { dst := some 20, op := _, type := _, pos := _, after := _, guard := _ }) (v := ?v8_8) rfl (by kernel_rfl) (by kernel_rfl) (by kernel_rfl) (by intro _ _ _ h; first | exact h | exact nomatch h.1) (.inl ⟨by rfl, ?h8_8⟩) (by assumption) ?_
      case h8_8 => intro w hSw; obtain ⟨hs0, hs1, hs2⟩ := hSw; go_simp; (try with_reducible rfl)
      try simp only [Act.put, List.setIfInBounds_toArray, List.set_cons_zero, List.set_cons_succ]
      obtain ⟨w3, hw3⟩ : ∃ w3, w3 = w2.alloc (.cells (aE.elC default) 84) := ⟨_, rfl⟩
      have hc3 : Ch [] w1 w3 := by rw [hw3]; exact HC2.out.alloc _
      have hN3 : HB w3 w2.heap.size 84 (aE.elC default) := by rw [hw3]; exact HB.new w2 _ _
      have HC3 := Lib.hid hc3
      have HXe := Lib.hid (show b.Eh ≤ w2.heap.size ∧ w.heap.size < w2.heap.size from ⟨Nat.le_trans H1.out.eh HC2.out.size, Nat.lt_of_lt_of_le HH1.out.lt HC2.out.size⟩)
      have hheld : w3.cell? ⟨b.X, 4, none⟩ = some (.pointer (some ⟨b.Ra, 0, none⟩)) ∧ w3.cell? ⟨w.heap.size, 0, none⟩ = some (.int .i64 p) ∧ w3.cell? ⟨w.heap.size, 1, none⟩ = some (.int .i64 q) := ⟨(H1.out.quiet hc3).cells.2.2.2.2.1, (HH1.out.ch hc3 (by simp)).c 0 rfl, (HH1.out.ch hc3 (by simp)).c 1 rfl⟩
      rw [hw3] at hheld
      refine wpAnyH_ready (rs := [9]) (by kernel_rfl) (by simp) ?_
      refine AllReadyH.cons (o := { dst := some 7, op := _, type := _, pos := _, after := _, guard := _ }) rfl (fun K hK => ?_) AllReadyH.nil
      go_simp
      refine hK.out _ _ hheld (fun hHeld => ?_)
      clear hK K
      try simp only [Act.put, List.setIfInBounds_toArray, List.set_cons_zero, List.set_cons_succ]
      change wpAnyH _ _ _ _ _ _ _ _ (w2.alloc (.cells (aE.elC default) 84))
      rw [← hw3]
      obtain ⟨X7, hX7⟩ : ∃ X7, X7 = w2.heap.size := ⟨_, rfl⟩
      rw [← hX7] at hN3 HXe ⊢
      obtain ⟨d0, f0, f1, f2, f3, f4, d1, d2, d3, d4⟩ := aE.boxE_at (BxE.hb hN3) x
      have HN3 := Lib.hid hN3
      have hcS : Ch [] w1 (aE.stE w3 X7 0 x) := aE.ch_stE HC3.out (.inr (by rw [hX7]; exact HC2.out.size)) 0 x
      have HCS := Lib.hid hcS
      clear hheld hw3 hc3 hX7 hN3 hcS
      refine wpAnyH_ready (rs := [10]) (by kernel_rfl) (by simp) ?_
      refine AllReadyH.cons (o := { dst := none, op := _, type := _, pos := _, after := _, guard := _ }) rfl (fun K hK => ?_) AllReadyH.nil
      go_simp
      refine hK.out _ _ ⟨(H1.out.quiet HCS.out).cells.2.2.2.2.1, (HH1.out.ch HCS.out (by simp)).c 0 rfl, (HH1.out.ch HCS.out (by simp)).c 1 rfl⟩ (fun hHeld => ?_)
      clear hK K
      try simp only [Act.put, List.setIfInBounds_toArray, List.set_cons_zero, List.set_cons_succ]
      refine wpAnyH_take (i := 11) (oi := { dst := some 8, op := _, type := _, pos := _, after := _, guard := _ }) (v := ?v9_11) rfl (by kernel_rfl) (by kernel_rfl) (by kernel_rfl) (by intro _ _ _ h; first | exact h | exact nomatch h.1) (.inl ⟨by rfl, ?h9_11⟩) (by assumption) ?_
      case h9_11 => intro w hSw; obtain ⟨hs0, hs1, hs2⟩ := hSw; go_simp; (try with_reducible rfl)
      try simp only [Act.put, List.setIfInBounds_toArray, List.set_cons_zero, List.set_cons_succ]
      refine wpAnyH_done (by kernel_rfl) ?_ _
      have hb : HB (aE.stE w3 X7 0 x) X7 84 (aE.elC x) := ((((HN3.out.set 0 _).set 1 _).set 2 _).set 3 _).set 4 _
      exact ⟨rfl, X7, HXe.out.1, HXe.out.2, rfl, hb, HH1.out.ch HCS.out (by simp), HCS.out⟩
    · obtain ⟨w2, hw2⟩ : ∃ w2, w2 = (w1.alloc (.cells (aE.elC default) 84)).drew := ⟨_, rfl⟩
      have hc2 : Ch [] w1 w2 := by rw [hw2]; exact ((Ch.refl [] w1).alloc _).drew
      have hN2 : HB w2 w1.heap.size 84 (aE.elC default) := by rw [hw2]; exact HB.new w1 _ _
      have HC2 := Lib.hid hc2
      have hheld : w2.cell? ⟨b.X, 4, none⟩ = some (.pointer (some ⟨b.Ra, 0, none⟩)) ∧ w2.cell? ⟨w.heap.size, 0, none⟩ = some (.int .i64 p) ∧ w2.cell? ⟨w.heap.size, 1, none⟩ = some (.int .i64 q) := ⟨(H1.out.quiet hc2).cells.2.2.2.2.1, (HH1.out.ch hc2 (by simp)).c 0 rfl, (HH1.out.ch hc2 (by simp)).c 1 rfl⟩
      rw [hw2] at hheld
      go_simp
      refine hK.out _ _ hheld (fun hHeld => ?_)
      clear hK K
      try simp only [Act.put, List.setIfInBounds_toArray, List.set_cons_zero, List.set_cons_succ]
      change wpAnyH _ _ _ _ _ _ _ _ (w1.alloc (.cells (aE.elC default) 84)).drew
      rw [← hw2]
      obtain ⟨X7, hX7⟩ : ∃ X7, X7 = w1.heap.size := ⟨_, rfl⟩
      rw [← hX7] at hN2 ⊢
      have HXe := Lib.hid (show b.Eh ≤ X7 ∧ w.heap.size < X7 ∧ w1.heap.size ≤ X7 from ⟨by rw [hX7]; exact H1.out.eh, by rw [hX7]; exact HH1.out.lt, by omega⟩)
      have HN2 := Lib.hid hN2
      clear hheld hw2 hc2 hX7 hN2
      refine wpAnyH_ready (rs := [5]) (by kernel_rfl) (by simp) ?_
      refine AllReadyH.cons (o := { dst := some 18, op := _, type := _, pos := _, after := _, guard := _ }) rfl (fun K hK => ?_) AllReadyH.nil
      go_simp
      with_reducible refine (HGet.out w2 HC2.out).mono ?_; rintro r w3 ⟨rfl, hc3⟩; have hN3 := HN2.out.ch hc3 (by simp); have HC3 := Lib.hid (HC2.out.trans hc3); clear hc3
      refine hK.out _ _ ⟨(H1.out.quiet HC3.out).cells.2.2.2.2.1, (HH1.out.ch HC3.out (by simp)).c 0 rfl, (HH1.out.ch HC3.out (by simp)).c 1 rfl⟩ (fun hHeld => ?_)
      clear hK K
      try simp only [Act.put, List.setIfInBounds_toArray, List.set_cons_zero, List.set_cons_succ]
      refine wpAnyH_take (i := 6) (oi := { dst := some 12, op := _, type := _, pos := _, after := _, guard := _ }) (v := ?v10_6) rfl (by kernel_rfl) (by kernel_rfl) (by kernel_rfl) (by intro _ _ _ h; first | exact h | exact nomatch h.1) (.inl ⟨by rfl, ?h10_6⟩) (by assumption) ?_
      case h10_6 => intro w hSw; obtain ⟨hs0, hs1, hs2⟩ := hSw; go_simp; (try with_reducible rfl)
      try simp only [Act.put, List.setIfInBounds_toArray, List.set_cons_zero, List.set_cons_succ]
      refine wpAnyH_take (i := 7) (oi := { dst := some 19, op := _, type := _, pos := _, after := _, guard := _ }) (v := ?v11_7) rfl (by kernel_rfl) (by kernel_rfl) (by kernel_rfl) (by intro _ _ _ h; first | exact h | exact nomatch h.1) (.inl ⟨by rfl, ?h11_7⟩) (by assumption) ?_
      case h11_7 => intro w hSw; obtain ⟨hs0, hs1, hs2⟩ := hSw; go_simp; (try with_reducible rfl)
      try simp only [Act.put, List.setIfInBounds_toArray, List.set_cons_zero, List.set_cons_succ]
      refine wpAnyH_take (i := 8) (oi := { dst := some 20, op := _, type := _, pos := _, after := _, guard := _ }) (v := ?v12_8) rfl (by kernel_rfl) (by kernel_rfl) (by kernel_rfl) (by intro _ _ _ h; first | exact h | exact nomatch h.1) (.inl ⟨by rfl, ?h12_8⟩) (by assumption) ?_
      case h12_8 => intro w hSw; obtain ⟨hs0, hs1, hs2⟩ := hSw; go_simp; (try with_reducible rfl)
      try simp only [Act.put, List.setIfInBounds_toArray, List.set_cons_zero, List.set_cons_succ]
      obtain ⟨d0, f0, f1, f2, f3, f4, d1, d2, d3, d4⟩ := aE.boxE_at (BxE.hb hN3) x
      have HN3 := Lib.hid hN3
      have hcS : Ch [] w1 (aE.stE w3 X7 0 x) := aE.ch_stE HC3.out (.inr HXe.out.2.2) 0 x
      have HCS := Lib.hid hcS
      clear hN3 hcS
      refine wpAnyH_ready (rs := [10]) (by kernel_rfl) (by simp) ?_
      refine AllReadyH.cons (o := { dst := none, op := _, type := _, pos := _, after := _, guard := _ }) rfl (fun K hK => ?_) AllReadyH.nil
      go_simp
      refine hK.out _ _ ⟨(H1.out.quiet HCS.out).cells.2.2.2.2.1, (HH1.out.ch HCS.out (by simp)).c 0 rfl, (HH1.out.ch HCS.out (by simp)).c 1 rfl⟩ (fun hHeld => ?_)
      clear hK K
      try simp only [Act.put, List.setIfInBounds_toArray, List.set_cons_zero, List.set_cons_succ]
      refine wpAnyH_take (i := 11) (oi := { dst := some 8, op := _, type := _, pos := _, after := _, guard := _ }) (v := ?v13_11) rfl (by kernel_rfl) (by kernel_rfl) (by kernel_rfl) (by intro _ _ _ h; first | exact h | exact nomatch h.1) (.inl ⟨by rfl, ?h13_11⟩) (by assumption) ?_
      case h13_11 => intro w hSw; obtain ⟨hs0, hs1, hs2⟩ := hSw; go_simp; (try with_reducible rfl)
      try simp only [Act.put, List.setIfInBounds_toArray, List.set_cons_zero, List.set_cons_succ]
      refine wpAnyH_done (by kernel_rfl) ?_ _
      have hb : HB (aE.stE w3 X7 0 x) X7 84 (aE.elC x) := ((((HN3.out.set 0 _).set 1 _).set 2 _).set 3 _).set 4 _
      exact ⟨rfl, X7, HXe.out.1, HXe.out.2.1, rfl, hb, HH1.out.ch HCS.out (by simp), HCS.out⟩
  case post =>
    rintro e a' wq ⟨rfl, X7, he7, h17, rfl, hb7, hbH, hcq⟩
    by_cases h0 : Er = 0
    · subst h0
      have HCall := Lib.hid (HF.out wq X7 hb7 he7 (HI.out _ _ HI1.out hcq) (H1.out.quiet hcq))
      have HCq := Lib.hid hcq
      have HBH := Lib.hid hbH
      have HL := Lib.hid (And.intro he7 h17)
      clear hb7 hbH hcq he7 h17 HF HGet HI
      have hfe := HFe.out
      by_cases hE : E = 0
      · subst hE
        go_wp2_with fail
        with_reducible refine HCall.out.mono ?_
        rintro e w8 ⟨rfl, hb8, hp8, hx8, hj8⟩
        have HP8 := Lib.hid hp8
        have HX8 := Lib.hid (Xk2.fresh (HC1.out.trans HCq.out) hx8 (Nat.le_of_lt HL.out.2))
        have HJ8 := Lib.hid hj8
        have hH8 := hx8.hb HBH.out (Nat.ne_of_gt HKl.out) (Nat.ne_of_lt HL.out.2) HEh.out (by decide) (by decide)
        have HSet := Lib.hid (aE.set_any (w := w8.drew) (hp8.quiet (Ch.refl [] w8).drew).ar p q x')
        have c4 := hp8.cells.2.2.2.2.1
        have g0 := hH8.c 0 rfl
        have g1 := hH8.c 1 rfl
        have e0 := hb8.c 0 rfl
        have e1 := hb8.c 1 rfl
        have e2 := hb8.c 2 rfl
        have e3 := hb8.c 3 rfl
        have e4 := hb8.c 4 rfl
        have HH8 := Lib.hid hH8
        have HB8 := Lib.hid hb8
        have HE0 := Lib.hid (show findE s.xs p q = 0 by have := HER.out; rw [← HPq.out] at this; exact this.symm)
        rw [HE0.out] at HSet
        clear hb8 hp8 hx8 hj8 hH8 HCall hfe
        go_wp2_with fail
        refine wp_region_noPanic ?_
        refine wp_region_held_drew (S := fun w' => w'.cell? ⟨b.X, 4, none⟩ = some (.pointer (some ⟨b.Ra, 0, none⟩)) ∧ w'.cell? ⟨w.heap.size, 0, none⟩ = some (.int .i64 p) ∧ w'.cell? ⟨w.heap.size, 1, none⟩ = some (.int .i64 q) ∧ w'.cell? ⟨X7, 0, none⟩ = some (.int .u64 (x'.k : Int)) ∧ w'.cell? ⟨X7, 1, none⟩ = some (.int .u64 (x'.v 0 : Int)) ∧ w'.cell? ⟨X7, 2, none⟩ = some (.int .u64 (x'.v 1 : Int)) ∧ w'.cell? ⟨X7, 3, none⟩ = some (.int .u64 (x'.v 2 : Int)) ∧ w'.cell? ⟨X7, 4, none⟩ = some (.int .u64 (x'.v 3 : Int))) (by kernel_rfl) ⟨c4, g0, g1, e0, e1, e2, e3, e4⟩ (fun hHeld => ?_)
        refine wpAnyH_take (i := 0) (oi := { dst := some 29, op := _, type := _, pos := _, after := _, guard := _ }) (v := ?v14_0) rfl (by kernel_rfl) (by kernel_rfl) (by kernel_rfl) (by intro _ _ _ h; first | exact h | exact nomatch h.1) (.inl ⟨by rfl, ?h14_0⟩) (by assumption) ?_
        case h14_0 => intro w hSw; obtain ⟨hs0, hs1, hs2, hs3, hs4, hs5, hs6, hs7⟩ := hSw; go_simp; (try with_reducible rfl)
        try simp only [Act.put, List.setIfInBounds_toArray, List.set_cons_zero, List.set_cons_succ]
        refine wpAnyH_take (i := 1) (oi := { dst := some 30, op := _, type := _, pos := _, after := _, guard := _ }) (v := ?v15_1) rfl (by kernel_rfl) (by kernel_rfl) (by kernel_rfl) (by intro _ _ _ h; first | exact h | exact nomatch h.1) (.inl ⟨by rfl, ?h15_1⟩) (by assumption) ?_
        case h15_1 => intro w hSw; obtain ⟨hs0, hs1, hs2, hs3, hs4, hs5, hs6, hs7⟩ := hSw; go_simp; (try with_reducible rfl)
        try simp only [Act.put, List.setIfInBounds_toArray, List.set_cons_zero, List.set_cons_succ]
        refine wpAnyH_take (i := 2) (oi := { dst := some 31, op := _, type := _, pos := _, after := _, guard := _ }) (v := ?v16_2) rfl (by kernel_rfl) (by kernel_rfl) (by kernel_rfl) (by intro _ _ _ h; first | exact h | exact nomatch h.1) (.inl ⟨by rfl, ?h16_2⟩) (by assumption) ?_
        case h16_2 => intro w hSw; obtain ⟨hs0, hs1, hs2, hs3, hs4, hs5, hs6, hs7⟩ := hSw; go_simp; (try with_reducible rfl)
        try simp only [Act.put, List.setIfInBounds_toArray, List.set_cons_zero, List.set_cons_succ]
        refine wpAnyH_take (i := 3) (oi := { dst := some 32, op := _, type := _, pos := _, after := _, guard := _ }) (v := ?v17_3) rfl (by kernel_rfl) (by kernel_rfl) (by kernel_rfl) (by intro _ _ _ h; first | exact h | exact nomatch h.1) (.inl ⟨by rfl, ?h17_3⟩) (by assumption) ?_
        case h17_3 => intro w hSw; obtain ⟨hs0, hs1, hs2, hs3, hs4, hs5, hs6, hs7⟩ := hSw; go_simp; (try with_reducible rfl)
        try simp only [Act.put, List.setIfInBounds_toArray, List.set_cons_zero, List.set_cons_succ]
        refine wpAnyH_take (i := 4) (oi := { dst := some 33, op := _, type := _, pos := _, after := _, guard := _ }) (v := ?v18_4) rfl (by kernel_rfl) (by kernel_rfl) (by kernel_rfl) (by intro _ _ _ h; first | exact h | exact nomatch h.1) (.inl ⟨by rfl, ?h18_4⟩) (by assumption) ?_
        case h18_4 => intro w hSw; obtain ⟨hs0, hs1, hs2, hs3, hs4, hs5, hs6, hs7⟩ := hSw; go_simp; (try with_reducible rfl)
        try simp only [Act.put, List.setIfInBounds_toArray, List.set_cons_zero, List.set_cons_succ]
        refine wpAnyH_take (i := 5) (oi := { dst := some 34, op := _, type := _, pos := _, after := _, guard := _ }) (v := ?v19_5) rfl (by kernel_rfl) (by kernel_rfl) (by kernel_rfl) (by intro _ _ _ h; first | exact h | exact nomatch h.1) (.inl ⟨by rfl, ?h19_5⟩) (by assumption) ?_
        case h19_5 => intro w hSw; obtain ⟨hs0, hs1, hs2, hs3, hs4, hs5, hs6, hs7⟩ := hSw; go_simp; (try with_reducible rfl)
        try simp only [Act.put, List.setIfInBounds_toArray, List.set_cons_zero, List.set_cons_succ]
        clear c4 g0 g1 e0 e1 e2 e3 e4
        refine wpAnyH_ready (rs := [6]) (by kernel_rfl) (by simp) ?_
        refine AllReadyH.cons (o := { dst := some 35, op := _, type := _, pos := _, after := _, guard := _ }) rfl (fun K hK => ?_) AllReadyH.nil
        go_simp
        with_reducible refine HSet.out.mono ?_; rintro r w9 ⟨rfl, hA9, hc9⟩; have HP9 := Lib.hid ((HP8.out.quiet (Ch.refl [] w8).drew).arena hc9 hA9); have hx9 := (Xn.of_ch (b := b) (Ch.refl [] w8).drew).trans HP9.out.2; have hb9 := hx9.hb HB8.out HL.out.1 (by decide) (by decide); have HX9 := Lib.hid hx9; have HJ9 := Lib.hid (HJ.out _ _ HJ8.out (((Ch.refl [] w8).drew.mono (T := [b.Ga]) (by simp)).trans hc9)); clear hA9 hc9
        refine hK.out _ _ ⟨HP9.out.1.cells.2.2.2.2.1, (hx9.hb HH8.out HEh.out (by decide) (by decide)).c 0 rfl, (hx9.hb HH8.out HEh.out (by decide) (by decide)).c 1 rfl, hb9.c 0 rfl, hb9.c 1 rfl, hb9.c 2 rfl, hb9.c 3 rfl, hb9.c 4 rfl⟩ (fun hHeld => ?_)
        clear hK K
        try simp only [Act.put, List.setIfInBounds_toArray, List.set_cons_zero, List.set_cons_succ]
        clear hx9 hb9
        refine wpAnyH_take (i := 7) (oi := { dst := some 6, op := _, type := _, pos := _, after := _, guard := _ }) (v := ?v20_7) rfl (by kernel_rfl) (by kernel_rfl) (by kernel_rfl) (by intro _ _ _ h; first | exact h | exact nomatch h.1) (.inl ⟨by rfl, ?h20_7⟩) (by assumption) ?_
        case h20_7 => intro w hSw; obtain ⟨hs0, hs1, hs2, hs3, hs4, hs5, hs6, hs7⟩ := hSw; go_simp; (try with_reducible rfl)
        try simp only [Act.put, List.setIfInBounds_toArray, List.set_cons_zero, List.set_cons_succ]
        refine wpAnyH_done (by kernel_rfl) ?_ _
        refine NoPanic.normal ?_
        go_wp2
        go_ret
        refine .inr ⟨HER.out.symm, rfl, ?_, HX8.out.trans (Xk.of HX9.out), HJ9.out⟩
        rw [if_pos rfl]
        have hp := HP9.out.1
        have := HPq.out
        unfold setM
        rw [show hd.1 = p from (congrArg Prod.fst this).symm, show hd.2 = q from (congrArg Prod.snd this).symm]
        exact hp
      · have hEd : (E != 0) = true := by simpa using hE
        have HEn := Lib.hid hE
        clear hE
        go_wp2_with fail
        with_reducible refine HCall.out.mono ?_
        rintro e w8 ⟨rfl, hb8, hp8, hx8, hj8⟩
        have HP8 := Lib.hid hp8
        have HX8 := Lib.hid (Xk2.fresh (HC1.out.trans HCq.out) hx8 (Nat.le_of_lt HL.out.2))
        have HJ8 := Lib.hid hj8
        clear hb8 hp8 hx8 hj8 HCall hfe
        go_wp2
        go_ret
        refine .inr ⟨HER.out.symm, rfl, ?_, HX8.out, HJ8.out⟩
        rw [if_neg HEn.out]
        exact HP8.out
    · have hEd : (Er != 0) = true := by simpa using h0
      have HEn := Lib.hid h0
      have HCq := Lib.hid (HC1.out.trans hcq)
      clear h0 hb7 hbH hcq he7 h17 HF HGet HI
      go_wp2
      go_ret
      exact .inl ⟨by rw [← HER.out]; exact HEn.out, by rw [← HER.out]; rfl, HCq.out⟩
end
end Go.Proofs.YtalhlopjaijhcaaGreat

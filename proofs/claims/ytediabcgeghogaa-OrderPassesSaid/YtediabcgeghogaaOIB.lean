/-
  An order of keys of int: a key's place, Has, Len, New; nil ones.
-/
import Derived.Test.YtediabcgeghogaaOIA
import Derived.Tactics
import Derived.Tactics2
import Derived.Defers
import Derived.Recover
import Derived.Laws.Pointers
namespace Go.Proofs.Ytediabcgeghogaa.oI
open Go.RowKit Go.Maps

attribute [local go_sem] Oper.semAt_some

theorem idle_any (p : Addr) (w : World) :
    CallsD Try.prog 36 #[.pointer (some p)] .returning w fun e u' w' => e = .returned (.tuple #[]) ∧ u' = .returning ∧ w' = w := by
  refine callsD_of_wpS Try.func36 rfl fun c₀ cs hu => ?_
  apply wpS_seq
  apply wpS_region
  simp [wpOpsS, go_sem, recoverD, hu, Try.ntmps36, Exit.thenS]
  refine wpS_cond (t := false) (by simp [Act.eval, Array.replicate]) ?_
  simp only [Bool.false_eq_true, if_false]
  refine wpS_of_wp (wp_skip ?_)
  cases c₀
  simp_all [bodyPostS, results, Try.results36]

theorem like_any (k : K) (w : World) : Calls Try.prog 30 #[kv k] w fun e w' => e = .returned (.bool true) ∧ w' = w.alloc (.cells #[.bool true] 4) := by
  have hmf : ∀ (fn : Fn) (first cap : Array Value) (w : World), (Instr.makeFunc fn first cap).run Try.prog w = .ok (.func fn first cap) w := fun _ _ _ _ => rfl
  go_enter_defers Try.func30, Try.ntmps30
  go_wp2
  refine leaves_cons (f := 36) (args := #[.pointer (some ⟨w.heap.size, 0, none⟩)]) (by simp) (by simp [go_sem]) ?_
  refine (idle_any ⟨w.heap.size, 0, none⟩ _).mono ?_
  rintro e u' w'' ⟨rfl, rfl, rfl⟩
  simp [Leaves, settle, results, Try.results30, go_sem]

theorem place_any (k : K) (w : World) : Calls Try.prog 26 #[kv k] w fun e w' => e = .returned (pv k) ∧ w' = (w.alloc (.cells #[kv k, .bool false] 59)).alloc (.cells #[.bool true] 4) := by
  go_enter Try.func26, Try.ntmps26
  go_wp2_with (first | (with_reducible refine (like_any k _).mono ?_; rintro e w2 ⟨rfl, rfl⟩) | fail)
  refine bodyPost_ret (v := pv k) ?_ rfl ?_
  · simp [results, Try.f26, go_sem]
  · exact ⟨rfl, rfl⟩

set_option maxRecDepth 100000 in
set_option maxHeartbeats 1000000 in
/-- Has, by what the map tells. -/
theorem has_run (R M : Nat) (k k' : K) (x : Int) (ok : Bool) (w : World) (hc : w.cell? ⟨R, 2, none⟩ = some (.map (some M)))
    (hrun : ∀ W, Ch [] w W → (Instr.lookup 55 (.map (some M)) (pv k) true).run Try.prog W = .ok (.tuple #[rv k' x, .bool ok]) W) :
    Calls Try.prog 18 #[.pointer (some ⟨R, 0, none⟩), kv k] w fun e w' => e = .returned (.bool ok) ∧ Ch [] w w' := by
  obtain ⟨A, hA⟩ : ∃ A : Obj, A = .cells #[kv k0, .int .u64 0] 62 := ⟨_, rfl⟩
  obtain ⟨B, hB⟩ : ∃ B : Obj, B = .cells #[kv k, .bool false] 59 := ⟨_, rfl⟩
  obtain ⟨C, hC⟩ : ∃ C : Obj, C = .cells #[.bool true] 4 := ⟨_, rfl⟩
  have h1 := hrun ((w.alloc B).alloc C).drew (((Ch.refl _ _).alloc _).alloc _).drew
  have h2 := hrun (((w.alloc A).alloc B).alloc C).drew ((((Ch.refl _ _).alloc _).alloc _).alloc _).drew
  have h3 := hrun (((w.alloc B).alloc C).alloc A).drew ((((Ch.refl _ _).alloc _).alloc _).alloc _).drew
  have hcR : ∀ W : World, Ch [] w W → W.cell? ⟨R, 2, none⟩ = some (.map (some M)) := fun W h => (h.cell (p := ⟨R, 2, none⟩) (cell_lt hc) (by simp)).trans hc
  have g0 := hcR (w.alloc A) ((Ch.refl _ _).alloc _)
  have g1 := hcR ((w.alloc B).alloc C) (((Ch.refl _ _).alloc _).alloc _)
  have g2 := hcR (((w.alloc A).alloc B).alloc C) ((((Ch.refl _ _).alloc _).alloc _).alloc _)
  have g3 := hcR (((w.alloc B).alloc C).alloc A) ((((Ch.refl _ _).alloc _).alloc _).alloc _)
  rw [hA] at g0
  rw [hA, hB, hC] at h2 h3 g2 g3
  rw [hB, hC] at h1 g1
  clear hA hB hC hrun hcR
  go_enter Try.func18, Try.ntmps18
  go_wp2_with fail
  go_region_with (go_at_call 26; refine (place_any k _).mono ?_; rintro e w' ⟨rfl, rfl⟩)
  all_goals clear h1 h2 h3 g0 g1 g2 g3
  all_goals go_wp2
  all_goals go_ret
  all_goals
    refine ⟨rfl, ?_⟩
    repeat (first | exact Ch.refl _ _ | apply Ch.drew | apply Ch.alloc)

theorem has_nil (k : K) (w : World) : Calls Try.prog 18 #[.pointer none, kv k] w fun e w' => e = .returned (.bool false) ∧ w' = w := by
  go_enter Try.func18, Try.ntmps18
  go_wp2
  go_ret
  exact ⟨rfl, rfl⟩
theorem has_any {w : World} {R M room n : Nat} {L : List Ent} (h : OR w R M room n L) {k : K} (hk : wfK k) :
    Calls Try.prog 18 #[.pointer (some ⟨R, 0, none⟩), kv k] w fun e w' => e = .returned (.bool (decide (k ∈ ks L))) ∧ Ch [] w w' := by
  obtain ⟨D, ho, hv⟩ := h.own
  by_cases hin : ∃ e ∈ L, e.k = k
  · obtain ⟨e, he, rfl⟩ := hin
    have hd : decide (e.k ∈ ks L) = true := decide_eq_true (List.mem_map.2 ⟨e, he, rfl⟩)
    rw [hd]
    refine has_run R M e.k e.k (e.t : Int) true w h.c2 (fun W hc => ?_)
    obtain ⟨v, ps, hrun, hv2⟩ := (own_chm ho hc (by simp)).look_ok law Try.underlying55 (zeroR W) (rd_mk k0 0) (key_of hk)
    rw [hv.has he, (hv.mem e he).2] at *
    obtain ⟨c, rfl⟩ := rd_inv hv2
    rw [rd_mk] at hv2
    have e2 : rv c.1 c.2 = rv e.k (e.t : Int) := by have := hv2; simp at this ⊢; exact this.1
    rw [e2] at hrun
    exact hrun
  · have hno : ∀ e ∈ L, e.k ≠ k := fun e he e1 => hin ⟨e, he, e1⟩
    have hd : decide (k ∈ ks L) = false := decide_eq_false (fun hm => by obtain ⟨e, he, e1⟩ := List.mem_map.1 hm; exact hno e he e1)
    rw [hd]
    refine has_run R M k k0 0 false w h.c2 (fun W hc => ?_)
    obtain ⟨v, ps, hrun, hv2⟩ := (own_chm ho hc (by simp)).look_ok law Try.underlying55 (zeroR W) (rd_mk k0 0) (key_of hk)
    have hn := hv.hasNot hk hno
    rw [hn] at hrun
    rw [atKey_of_not_has hn] at hv2
    obtain ⟨c, rfl⟩ := rd_inv hv2
    rw [rd_mk] at hv2
    have e2 : rv c.1 c.2 = rv k0 0 := by have := hv2; simp at this ⊢; exact this.1
    rw [e2] at hrun
    exact hrun

theorem len_nil (w : World) : Calls Try.prog 15 #[.pointer none] w fun e w' => e = .returned (.int .i64 0) ∧ w' = w := by
  go_enter Try.func15, Try.ntmps15
  go_wp2
  go_ret
  exact ⟨rfl, rfl⟩
theorem len_any {w : World} {R M room n : Nat} {L : List Ent} (h : OR w R M room n L) : Calls Try.prog 15 #[.pointer (some ⟨R, 0, none⟩)] w fun e w' => e = .returned (.int .i64 (L.length : Int)) ∧ w' = w := by
  obtain ⟨D, ho, hv⟩ := h.own
  have c2 := h.c2
  have HSz := Lib.hid hv.sz
  obtain ⟨m, hm⟩ : ∃ m, m = L.length := ⟨_, rfl⟩
  rw [← hm] at ho HSz ⊢
  clear h hv hm
  go_enter Try.func15, Try.ntmps15
  go_wp2_with (first | (at_len; refine wpList_len_own _ rfl _ 55 rfl 59 62 Try.underlying55 _ M m D rfl ho ?_) | fail)
  go_ret
  exact ⟨by rw [HSz.out]; rfl, rfl⟩

theorem new_bad (room : Int) (w : World) (h : room < 1 ∨ 64 < room) : Calls Try.prog 7 #[.int .i64 room] w fun r w' => r = .returned (.tuple #[.pointer none, .int .i64 2]) ∧ w' = w := by
  by_cases h0 : room < 1
  · have hd1 : decide (room < 1) = true := by simpa using h0
    clear h
    go_enter Try.func7, Try.ntmps7
    go_wp2
    go_ret2
    exact ⟨rfl, rfl⟩
  · have hd1 : decide (room < 1) = false := by simpa using h0
    have hd2 : decide (64 < room) = true := by simp; omega
    clear h
    go_enter Try.func7, Try.ntmps7
    go_wp2
    go_ret2
    exact ⟨rfl, rfl⟩

theorem new_ok (room : Nat) (w : World) (S : Nat) (hS : w.heap.size = S) (h1 : 1 ≤ room) (h2 : room ≤ 64) :
    Calls Try.prog 7 #[.int .i64 (room : Int)] w fun r w' => r = .returned (.tuple #[.pointer (some ⟨S + 1, 0, none⟩), .int .i64 0]) ∧ OR w' (S + 1) S room 0 [] ∧ Ch [] w w' ∧ w'.heap.size = S + 2 := by
  have HO := Lib.hid (World.ownsMap_made w Try.prog 59 rd)
  obtain ⟨w1, hw1⟩ : ∃ w1, w1 = w.alloc (.map #[] 0) := ⟨_, rfl⟩
  have hz1 : w1.heap.size = S + 1 := by rw [hw1]; simp [hS]
  have hc1 : Ch [] w w1 := by rw [hw1]; exact (Ch.refl [] w).alloc _
  obtain ⟨T, hT⟩ : ∃ T : Int, T = (room : Int) := ⟨_, rfl⟩
  have HC := Lib.hid (hc1.alloc (.cells #[.int .i64 T, .int .u64 0, .map (some S)] 57))
  have HZ := Lib.hid (show (w1.alloc (.cells #[.int .i64 T, .int .u64 0, .map (some S)] 57)).heap.size = S + 2 by simp [hz1])
  have HB := Lib.hid (show (w1.alloc (.cells #[.int .i64 T, .int .u64 0, .map (some S)] 57)).cell? ⟨S + 1, 0, none⟩ = some (.int .i64 T) ∧ (w1.alloc (.cells #[.int .i64 T, .int .u64 0, .map (some S)] 57)).cell? ⟨S + 1, 1, none⟩ = some (.int .u64 0) ∧
    (w1.alloc (.cells #[.int .i64 T, .int .u64 0, .map (some S)] 57)).cell? ⟨S + 1, 2, none⟩ = some (.map (some S)) ∧ (w1.alloc (.cells #[.int .i64 T, .int .u64 0, .map (some S)] 57)).frozen? ⟨S + 1, 1, none⟩ = false by
      rw [← hz1]
      exact ⟨by rw [World.cell?_alloc_at _ _ _ _ rfl]; rfl, by rw [World.cell?_alloc_at _ _ _ _ rfl]; rfl, by rw [World.cell?_alloc_at _ _ _ _ rfl]; rfl, World.frozen?_alloc_new w1 _ _ _⟩)
  rw [← hw1, hS] at HO
  have HOB := Lib.hid (own_chm HO.out ((Ch.refl [] w1).alloc (.cells #[.int .i64 T, .int .u64 0, .map (some S)] 57)) (by simp))
  rw [hw1] at HB HC HZ HOB
  have HS := Lib.hid hS
  have hd1 : decide (T < 1) = false := by simp; omega
  have hd2 : decide (64 < T) = false := by simp; omega
  rw [← hT]
  have HT := Lib.hid hT
  have hmm := @run_makeMap Try.prog
  clear hS hz1 hc1 hw1 HO hT
  go_enter Try.func7, Try.ntmps7
  go_wp2
  go_ret2
  rw [HS.out]
  obtain ⟨b0, b1, b2, b3⟩ := HB.out
  exact ⟨rfl, ⟨by rw [← HT.out]; exact b0, b1, b2, b3, ⟨_, HOB.out, Vw.empty⟩, .nil 0, ⟨h1, h2⟩, by simp⟩, HC.out, HZ.out⟩
end Go.Proofs.Ytediabcgeghogaa.oI

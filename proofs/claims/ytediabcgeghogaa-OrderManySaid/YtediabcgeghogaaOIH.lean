/-
  An order of keys of int: Oldest, Newest.
-/
import Derived.Test.YtediabcgeghogaaOIG
namespace Go.Proofs.Ytediabcgeghogaa.oI
open Go.RowKit Go.Maps Go.Sort Go.Shelf

attribute [local go_sem] Oper.semAt_some

/-- The oldest and the newest key, the zero value if there is none. -/
def oldK (l : List K) : K := l.headD k0
def newK (l : List K) : K := l.getLastD k0
theorem old_head {l : List K} {x : K} (h : [x] <+: l) : oldK l = x ∧ (0 < l.length) := by
  obtain ⟨r, rfl⟩ := h
  simp [oldK]

theorem boxed_other {W : World} {B X : Nat} {t : TypeId} {v : Value} (h : Boxed W B t v) (hne : B ≠ X) (u : Value) : Boxed (W.setCell ⟨X, 0, none⟩ u) B t v := (Below.heap_setCell _ ⟨X, 0, none⟩ u B hne).trans h
theorem boxed_put {W : World} {B D : Nat} {t : TypeId} {v : Value} (h : Boxed W B t v) {o : Obj} (hD : W.heap[D]? = some o) (ho : o.isCells = false) (o' : Obj) : Boxed (W.putObj D o') B t v :=
  (World.putObj_heap_other (fun e => by subst e; have h2 : W.heap[B]? = some (Obj.cells #[v] t (0, 0)) := h; rw [hD] at h2; cases h2; cases ho)).trans h

set_option maxRecDepth 100000 in
set_option maxHeartbeats 2000000 in
theorem oldest_in (n : Nat) (p : Option Addr) (L : List Ent) (w : World) (hO : OG w p L) :
    CallsIn Fence.wide (n + 6) Try.prog 13 #[.pointer p] w fun e W' => e = .returned (.tuple #[kv (oldK (ks L)), .bool (decide (0 < (ks L).length))]) ∧ Ch [] w W' := by
  have HO := Lib.hid hO
  obtain ⟨x0, hx0⟩ : ∃ x, x = oldK (ks L) := ⟨_, rfl⟩
  obtain ⟨b0, hb0⟩ : ∃ b, b = decide (0 < (ks L).length) := ⟨_, rfl⟩
  rw [← hx0, ← hb0]
  have HX := Lib.hid hx0
  have HB := Lib.hid hb0
  clear hO hx0 hb0
  have hw : ∀ f, Fence.wide.fn f := fun _ => trivial
  have hd : Fence.wide.depth = none := rfl
  have h1 : 1 ≤ n + 6 := by omega
  refine callsIn_of_wp_marks Try.func13 rfl trivial ?_ rfl
  simp only [Try.ntmps13, List.size_toArray, List.length_cons, List.length_nil, Nat.reduceAdd, Nat.reduceSub, Array.replicate_succ, Array.replicate_zero, List.push_toArray, List.append_toArray, List.nil_append, List.cons_append]
  gi_wp2_with (first | (gi_at_call 27; refine (keys_in _ _ _).mono ?_; rintro e w' ⟨rfl, rfl⟩))
  obtain ⟨W1, hW1⟩ : ∃ W1, W1 = w.alloc (.cells #[kv k0] 3) := ⟨_, rfl⟩
  obtain ⟨W2, hW2⟩ : ∃ W2, W2 = W1.alloc (.cells #[.bool false] 4) := ⟨_, rfl⟩
  obtain ⟨W0, hW0⟩ : ∃ W0, W0 = W2.alloc (.cells #[.pointer p] 23) := ⟨_, rfl⟩
  have s1 : W1.heap.size = w.heap.size + 1 := by rw [hW1]; simp
  have s2 : W2.heap.size = w.heap.size + 1 + 1 := by rw [hW2]; simp [s1]
  have hsz : W0.heap.size = w.heap.size + 1 + 1 + 1 := by rw [hW0]; simp [s2]
  have q1 : Ch [] w W1 := by rw [hW1]; exact (Ch.refl [] _).alloc _
  have q2 : Ch [] W1 W2 := by rw [hW2]; exact (Ch.refl [] _).alloc _
  have q0 : Ch [] W2 W0 := by rw [hW0]; exact (Ch.refl [] _).alloc _
  have hc0 : Ch [] w W0 := (q1.trans q2).trans q0
  have bK : Boxed W0 w.heap.size 3 (kv k0) := by rw [hW0, hW2, hW1]; exact ((Boxed.new w _ _).alloc _).alloc _
  have bB : Boxed W0 (w.heap.size + 1) 4 (.bool false) := by rw [hW0, hW2, ← s1]; exact (Boxed.new W1 _ _).alloc _
  have bN : Boxed W0 (w.heap.size + 1 + 1) 23 (.pointer p) := by rw [hW0, ← s2]; exact Boxed.new W2 _ _
  rw [← hW1, ← hW2, ← hW0]
  clear hW0 hW1 hW2 s1 s2 q1 q2 q0
  refine wpIn_range_p rfl h1 (gf := 31) (lb := #[.pointer (some ⟨w.heap.size + 1 + 1, 0, none⟩)]) rfl trivial (enters_of Try.func31 (by kernel_rfl) rfl)
    (keys_stops (n + 6 - 1) W0 bN.cell (HO.out.quiet hc0))
    (fun A B hAB k o hk _ _ => (hAB.block k (Array.getElem?_eq_some_iff.1 hk).1 (by simp)).trans hk)
    (fun h g => h.trans g) (fun W l o o' _ ho hc _ _ => KpT.put W l o o' ho hc) (fun _ => rfl)
    (fun pre W => (Boxed W w.heap.size 3 (kv k0) ∧ Boxed W (w.heap.size + 1) 4 (.bool false)) ∧ Ch [] w W ∧ pre = [])
    (fun c pre W => (Boxed W w.heap.size 3 (kv (pre.headD k0)) ∧ Boxed W (w.heap.size + 1) 4 (.bool true)) ∧ Ch [] w W ∧ c = .ret ∧ ∃ x, pre = [x])
    (OwnFrom.and (OwnFrom.and (Own.from (boxed_own _ _ (fun _ => _)) _) (Own.from (boxed_own _ _ (fun _ => _)) _)) (OwnFrom.and (ownFrom_ch (by omega)) (ownFrom_pure _ (fun pre : List K => pre = []))))
    (fun s A B hs hc => ⟨⟨hs.1.1.kept hc.grown0 (by simp), hs.1.2.kept hc.grown0 (by simp)⟩, hs.2.1.trans hc, hs.2.2⟩)
    (fun c => OwnFrom.and (OwnFrom.and (Own.from (boxed_own _ _ (fun pre : List K => kv (pre.headD k0))) _) (Own.from (boxed_own _ _ (fun _ => _)) _)) (OwnFrom.and (ownFrom_ch (by omega)) (ownFrom_pure _ (fun pre : List K => c = .ret ∧ ∃ x, pre = [x]))))
    ⟨⟨bK, bB⟩, hc0, rfl⟩
    (fun x => { tmps := #[.pointer p, undef, .pointer (some ⟨w.heap.size, 0, none⟩), .pointer (some ⟨w.heap.size + 1, 0, none⟩), kv x, undef, .pointer p, .func (.func 31) #[] #[.pointer (some ⟨w.heap.size + 1 + 1, 0, none⟩)], kv x, undef, undef], defers := [] }) ?assign ?body ?done ?stop
  case assign =>
    intro l x W K hK
    gi_wp2
    exact hK
  case body =>
    rintro l pre x W ⟨⟨hk, hb⟩, hq, rfl⟩ hpre
    have d0 := hk.cell
    have d1 := hk.frozen
    have c0 := hb.cell
    have c1 := hb.frozen
    gi_wp2
    refine ⟨((KeepsOthers.setCell W ⟨w.heap.size, 0, none⟩ (kv x)).trans (KeepsOthers.setCell _ _ _)).from _, ⟨boxed_other (hk.set _) (by omega) _, (boxed_other hb (by omega) _).set _⟩, ?_, rfl, x, rfl⟩
    exact chSetNew (p := ⟨w.heap.size + 1, 0, none⟩) (chSetNew (p := ⟨w.heap.size, 0, none⟩) hq (Nat.le_refl _) _) (by simp) _
  case done =>
    rintro D ys W hD hys ⟨⟨hk, hb⟩, hq, rfl⟩ hK
    have d0 := hk.cell
    have d1 := hk.frozen
    have c0 := hb.cell
    have c1 := hb.frozen
    have HE := Lib.hid (show x0 = k0 ∧ b0 = false by rw [HX.out, HB.out, ← hys]; simp [oldK])
    clear hys
    gi_wp2
    have e1 : Boxed ((W.setCell ⟨w.heap.size, 0, none⟩ (kv k0)).setCell ⟨w.heap.size + 1, 0, none⟩ (.bool false)) w.heap.size 3 (kv k0) := boxed_other (hk.set _) (by omega) _
    have e2 : Boxed ((W.setCell ⟨w.heap.size, 0, none⟩ (kv k0)).setCell ⟨w.heap.size + 1, 0, none⟩ (.bool false)) (w.heap.size + 1) 4 (.bool false) := (boxed_other hb (by omega) _).set _
    have hK2 := ((KeepsOthers.setCell W ⟨w.heap.size, 0, none⟩ (kv k0)).trans (KeepsOthers.setCell _ ⟨w.heap.size + 1, 0, none⟩ (.bool false))).same D _ hK rfl
    have hq2 : Ch [] w ((W.setCell ⟨w.heap.size, 0, none⟩ (kv k0)).setCell ⟨w.heap.size + 1, 0, none⟩ (.bool false)) := chSetNew (p := ⟨w.heap.size + 1, 0, none⟩) (chSetNew (p := ⟨w.heap.size, 0, none⟩) hq (Nat.le_refl _) _) (by simp) _
    generalize (W.setCell ⟨w.heap.size, 0, none⟩ (kv k0)).setCell ⟨w.heap.size + 1, 0, none⟩ (.bool false) = WZ at *
    refine ⟨by simp, .inl ⟨_, _, rfl, run_takeDeferred hK2, ?_⟩⟩
    have j1 := (boxed_put e1 hK2 rfl (.deferred none)).cell
    have j2 := (boxed_put e2 hK2 rfl (.deferred none)).cell
    refine ⟨.tuple #[kv k0, .bool false], ?_, ?_, (ownFrom_ch (β := Unit) (w := w) (Nat.le_refl _)) () WZ _ (some D) hq2 (grownBy_putObj' WZ D _) (fun r e => by cases e; exact ⟨by omega, _, hK2, rfl⟩)⟩
    · simp [results, Try.f13, go_sem, j1, j2]
    · rw [HE.out.1, HE.out.2]
  case stop =>
    rintro D c pre W hD hpre ⟨⟨hk, hb⟩, hq, rfl, x, rfl⟩ hK
    obtain ⟨h1, h2⟩ := old_head hpre
    have HE := Lib.hid (show x0 = x ∧ b0 = true by rw [HX.out, HB.out, h1]; exact ⟨rfl, decide_eq_true h2⟩)
    have hk2 : Boxed W w.heap.size 3 (kv x) := hk
    clear h1 h2 hk
    gi_wp2
    refine ⟨by simp, .inl ⟨_, _, rfl, run_takeDeferred hK, ?_⟩⟩
    have j1 := (boxed_put hk2 hK rfl (.deferred none)).cell
    have j2 := (boxed_put hb hK rfl (.deferred none)).cell
    refine ⟨.tuple #[kv x, .bool true], ?_, ?_, (ownFrom_ch (β := Unit) (w := w) (Nat.le_refl _)) () W _ (some D) hq (grownBy_putObj' W D _) (fun r e => by cases e; exact ⟨by omega, _, hK, rfl⟩)⟩
    · simp [results, Try.f13, go_sem, j1, j2]
    · rw [HE.out.1, HE.out.2]
theorem oldest_any {p : Option Addr} {L : List Ent} {w : World} (hO : OG w p L) : Calls Try.prog 13 #[.pointer p] w fun e W' => e = .returned (.tuple #[kv (oldK (ks L)), .bool (decide (0 < (ks L).length))]) ∧ Ch [] w W' := callsIn_wide.1 (oldest_in 0 p L w hO)

set_option maxRecDepth 100000 in
set_option maxHeartbeats 2000000 in
theorem newest_in (n : Nat) (p : Option Addr) (L : List Ent) (w : World) (hO : OG w p L) :
    CallsIn Fence.wide (n + 6) Try.prog 14 #[.pointer p] w fun e W' => e = .returned (.tuple #[kv (newK (ks L)), .bool (decide (0 < (ks L).length))]) ∧ Ch [] w W' := by
  have HO := Lib.hid hO
  obtain ⟨x0, hx0⟩ : ∃ x, x = newK (ks L) := ⟨_, rfl⟩
  obtain ⟨m, hm⟩ : ∃ m, m = L.length := ⟨_, rfl⟩
  obtain ⟨b0, hb0⟩ : ∃ b, b = decide (0 < m) := ⟨_, rfl⟩
  rw [← hx0, show (ks L).length = m by rw [hm]; simp [ks], ← hb0]
  have HX := Lib.hid hx0
  have HM := Lib.hid hm
  have HB := Lib.hid hb0
  clear hO hx0 hm hb0
  have hw : ∀ f, Fence.wide.fn f := fun _ => trivial
  have hd : Fence.wide.depth = none := rfl
  have h1 : 1 ≤ n + 6 := by omega
  refine callsIn_of_wp_marks Try.func14 rfl trivial ?_ rfl
  simp only [Try.ntmps14, List.size_toArray, List.length_cons, List.length_nil, Nat.reduceAdd, Nat.reduceSub, Array.replicate_succ, Array.replicate_zero, List.push_toArray, List.append_toArray, List.nil_append, List.cons_append]
  gi_wp2_with (first | (gi_at_call 27; refine (keys_in _ _ _).mono ?_; rintro e w' ⟨rfl, rfl⟩))
  obtain ⟨W1, hW1⟩ : ∃ W1, W1 = w.alloc (.cells #[kv k0] 3) := ⟨_, rfl⟩
  obtain ⟨W0, hW0⟩ : ∃ W0, W0 = W1.alloc (.cells #[.pointer p] 23) := ⟨_, rfl⟩
  have s1 : W1.heap.size = w.heap.size + 1 := by rw [hW1]; simp
  have hsz : W0.heap.size = w.heap.size + 1 + 1 := by rw [hW0]; simp [s1]
  have q1 : Ch [] w W1 := by rw [hW1]; exact (Ch.refl [] _).alloc _
  have q0 : Ch [] W1 W0 := by rw [hW0]; exact (Ch.refl [] _).alloc _
  have hc0 : Ch [] w W0 := q1.trans q0
  have bK : Boxed W0 w.heap.size 3 (kv k0) := by rw [hW0, hW1]; exact (Boxed.new w _ _).alloc _
  have bN : Boxed W0 (w.heap.size + 1) 23 (.pointer p) := by rw [hW0, ← s1]; exact Boxed.new W1 _ _
  rw [← hW1, ← hW0]
  clear hW0 hW1 s1 q1 q0
  refine wpIn_range_p rfl h1 (gf := 31) (lb := #[.pointer (some ⟨w.heap.size + 1, 0, none⟩)]) rfl trivial (enters_of Try.func31 (by kernel_rfl) rfl)
    (keys_stops (n + 6 - 1) W0 bN.cell (HO.out.quiet hc0))
    (fun A B hAB k o hk _ _ => (hAB.block k (Array.getElem?_eq_some_iff.1 hk).1 (by simp)).trans hk)
    (fun h g => h.trans g) (fun W l o o' _ ho hc _ _ => KpT.put W l o o' ho hc) (fun _ => rfl)
    (fun pre W => Boxed W w.heap.size 3 (kv (newK pre)) ∧ Ch [] w W)
    (fun _ _ _ => False)
    (OwnFrom.and (Own.from (boxed_own _ _ (fun pre => kv (newK pre))) _) (ownFrom_ch (by omega)))
    (fun s A B hs hc => ⟨hs.1.kept hc.grown0 (by simp), hs.2.trans hc⟩)
    (fun _ _ _ _ _ hs _ _ => hs)
    ⟨bK, hc0⟩
    (fun x => { tmps := #[.pointer p, undef, kv k0, .bool false, .pointer (some ⟨w.heap.size, 0, none⟩), kv x, .pointer p, .func (.func 31) #[] #[.pointer (some ⟨w.heap.size + 1, 0, none⟩)], kv x, undef, undef, undef, undef, undef], defers := [] }) ?assign ?body ?done ?stop
  case assign =>
    intro l x W K hK
    gi_wp2
    exact hK
  case body =>
    rintro l pre x W ⟨hk, hq⟩ hpre
    have d0 := hk.cell
    have d1 := hk.frozen
    gi_wp2
    refine ⟨(KeepsOthers.setCell W ⟨w.heap.size, 0, none⟩ (kv x)).from _, (KpT.ch (Ch.refl [] W)).set hk (by decide) _, ?_, chSetNew (p := ⟨w.heap.size, 0, none⟩) hq (Nat.le_refl _) _⟩
    rw [show newK (pre ++ [x]) = x by simp [newK]]
    exact hk.set _
  case done =>
    rintro D ys W hD hys ⟨hk, hq⟩ hK
    rw [hys, ← HX.out] at hk
    have d0 := hk.cell
    have HLen := Lib.hid (fun nq => (HO.out.quiet (hq.drewN nq)).len)
    rw [← HM.out] at HLen
    clear hys
    gi_wp2
    rw [wpIn_wide]
    go_quiet ((go_at_call 15; exact Calls.quiet_of_same (HLen.out _)))
    have hK2 : (W.drewN nq).heap[D]? = some (.deferred (some [])) := hK
    have hq2 : Ch [] w (W.drewN nq) := hq.drewN nq
    clear hK hk d0
    gi_wp2
    refine ⟨by simp, .inl ⟨_, _, rfl, run_takeDeferred hK2, ?_⟩⟩
    refine ⟨.tuple #[kv x0, .bool (decide (0 < m))], ?_, ?_, (ownFrom_ch (β := Unit) (w := w) (Nat.le_refl _)) () (W.drewN nq) _ (some D) hq2 (grownBy_putObj' (W.drewN nq) D _) (fun r e => by cases e; exact ⟨by omega, _, hK2, rfl⟩)⟩
    · simp [results, Try.f14, go_sem]
    · rw [HB.out]
  case stop =>
    rintro D c pre W _ _ h _
    exact h.elim
theorem newest_any {p : Option Addr} {L : List Ent} {w : World} (hO : OG w p L) : Calls Try.prog 14 #[.pointer p] w fun e W' => e = .returned (.tuple #[kv (newK (ks L)), .bool (decide (0 < (ks L).length))]) ∧ Ch [] w W' := callsIn_wide.1 (newest_in 0 p L w hO)
end Go.Proofs.Ytediabcgeghogaa.oI

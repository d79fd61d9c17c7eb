/-
  New.
-/
import Derived.Test.YtnndofeomakpiaaGreatDoorBkD
namespace Go.Proofs.YtnndofeomakpiaaGreatDoor
open Go.RowKit Go.Maps

attribute [local go_sem] Oper.semAt_some

theorem infoP : (Tryz.prog.info? 71).map (fun i => (i.zero, i.size, i.bytes)) = some (some (.pointer none), 1, 8) := by kernel_rfl
/-- append to a row of the call's own, as one step of a region that draws, and where the new row lies. -/
theorem step_append_own_at {P : Program} {w : World} {ops : Array Oper} {o : Oper} {a : Act} {K : Act → World → Prop} {Q : Exit → Act → World → Prop} {E : Prop} (hgd : o.guard = none) (s x : Operand) (t : TypeId)
    (ho : o.op = .call { callee := .builtin .append, args := #[s, x], argTypes := #[t, t] })
    (base : Nat) (e : TypeId) (i : TypeInfo) (z : Value) (size bytes : Nat) (ht : P.underlying t = some (.slice e)) (hi : P.info? e = some i) (hz : i.zero = some z)
    (hsize : i.size = size) (hby : i.bytes = bytes) (hzs : z.cells.size = size) (hsz : 0 < size)
    (v : Value) (n : Nat) (xs : List Value) (hs : a.eval s = v) (hown : w.ownsRow base e size v n xs)
    (ad : Addr) (m c : Nat) (news : List Value) (hx : a.eval x = .slice (some ad) m c) (hl : news.length = m * size) (hnews : ∀ j u, news[j]? = some u → w.cell? (ad.add j) = some u) (h1 : ∀ u ∈ news, u.oneCell' = true)
    (h63 : n + m ≤ maxLen) (hbytes : (n + m) * bytes ≤ 140737488355328) (hbase : base ≤ w.heap.size)
    (h : ∀ v' w', w'.ownsRow base e size v' (n + m) (xs ++ news) → w.grownBy w' v.ownBlock → (v'.ownBlock = v.ownBlock ∨ v'.ownBlock = some w.heap.size) → K (a.put o.dst v') w') :
    if Region.wanted o (yielded ops a.tmps) = true then Oper.wp P o a w K Q else E := by
  have hw : Region.wanted o (yielded ops a.tmps) = true := by simp [Region.wanted, hgd]
  rw [if_pos hw]
  obtain ⟨v', w', hrun, r1, r2, r3, r4⟩ := run_append_own_at (P := P) w base t o.type e i z size bytes ht hi hz hsize hby hzs hsz v n xs hown ad m c news hl hnews h1 h63 hbytes hbase
  unfold Oper.wp
  simp [execOp, ho, resolve, invoke, builtin, hs, hx, hrun, Result.andThen]
  exact h v' w' r1 r2 r4

/-- A bank that is being made: its box K, the row v of the wheels made so far. -/
structure NB (w wr : World) (K k : Nat) (v : Value) (Bs : Nat → Nat) (now : Int) : Prop where
  bx : wr.cell? ⟨K, 0, none⟩ = some v ∧ wr.frozen? ⟨K, 0, none⟩ = false
  row : wr.ownsRow w.heap.size 71 1 v k ((List.range k).map fun i => .pointer (some ⟨Bs i, 0, none⟩))
  wh : ∀ i, i < k → WB wr w.heap.size (Bs i) (fun j => j = Bs i) now 0 []
  ne : ∀ i j, i < k → j < k → i ≠ j → Bs i ≠ Bs j
  nk : ∀ i, i < k → Bs i ≠ K ∧ v.ownBlock ≠ some (Bs i)
  nv : v.ownBlock ≠ some K
  lo : w.heap.size ≤ K
  bel : Below w.heap.size w wr
theorem NB.drew {w wr : World} {K k : Nat} {v : Value} {Bs : Nat → Nat} {now : Int} (h : NB w wr K k v Bs now) : NB w wr.drew K k v Bs now :=
  ⟨h.bx, h.row, fun i hi => (h.wh i hi).quiet (Ch.refl [] wr).drew, h.ne, h.nk, h.nv, h.lo, h.bel.trans ((Ch.refl [] wr).drew.below _ (fun k hk => by simp at hk) h.bel.size)⟩
theorem NB.step {w W w1 : World} {K k : Nat} {v : Value} {Bs : Nat → Nat} {now : Int} (h : NB w W K k v Bs now) {S : Nat} (hS : S = W.heap.size) (hw1 : WB w1 w.heap.size S (fun j => j = S) now 0 []) (hc : Ch [] W w1) (hs : w1.heap.size = S + 1)
    {v' : Value} {w8 : World} {o : Obj} (hown : w8.ownsRow w.heap.size 71 1 v' (k + 1) (((List.range k).map fun i => .pointer (some ⟨Bs i, 0, none⟩)) ++ [.pointer (some ⟨S, 0, none⟩)])) (hg : (w1.alloc o).grownBy w8 v.ownBlock) (hat : v'.ownBlock = v.ownBlock ∨ v'.ownBlock = some (w1.alloc o).heap.size) :
    (w8.cell? ⟨K, 0, none⟩ = some v ∧ w8.frozen? ⟨K, 0, none⟩ = false) ∧ NB w (w8.setCell ⟨K, 0, none⟩ v') K (k + 1) v' (fun i => if i = k then S else Bs i) now := by
  have hKlt := cell_lt h.bx.1
  simp only at hKlt
  have hc2 : ChP (fun j => v.ownBlock = some j) W w8 := ((ChP.quiet hc).alloc o).trans (.grown hg (fun r e => e))
  have hc1 : ChP (fun j => v.ownBlock = some j) w1 w8 := ((ChP.refl _ w1).alloc o).trans (.grown hg (fun r e => e))
  have hvlt : ∀ j, v.ownBlock = some j → j < W.heap.size := fun j e => (h.row.lt j e).2
  have hbx : w8.cell? ⟨K, 0, none⟩ = some v ∧ w8.frozen? ⟨K, 0, none⟩ = false := ⟨(hc2.cell (p := ⟨K, 0, none⟩) hKlt h.nv).trans h.bx.1, (hc2.frozen (p := ⟨K, 0, none⟩) hKlt h.nv).trans h.bx.2⟩
  have hset : ChP (fun j => j = K) w8 (w8.setCell ⟨K, 0, none⟩ v') := ChP.setCell (S := fun j => j = K) (ChP.refl _ w8) (p := ⟨K, 0, none⟩) (.inl rfl) v'
  have hall : (w1.alloc o).heap.size = S + 1 + 1 := by simp [hs]
  have hv'K : v'.ownBlock ≠ some K := fun e => by
    rcases hat with h1 | h1
    · rw [h1] at e; exact h.nv e
    · rw [h1] at e; cases e; omega
  have hBlt : ∀ i, i < k → Bs i < W.heap.size := fun i hi => (h.wh i hi).hi _ rfl
  refine ⟨hbx, ⟨setCell_same hbx.1, by simpa using hbx.2⟩, own_chP ?_ hset (fun g hg' e => by subst e; exact hv'K hg'), fun i hi => ?_, fun i j hi hj hij => ?_, fun i hi => ?_, hv'K, h.lo, ?_⟩
  · rw [List.range_succ, List.map_append]
    have e1 : ((List.range k).map fun i => Value.pointer (some ⟨if i = k then S else Bs i, 0, none⟩)) = (List.range k).map fun i => Value.pointer (some ⟨Bs i, 0, none⟩) := by
      refine List.map_congr_left fun i hi => ?_
      have := List.mem_range.1 hi
      rw [if_neg (by omega)]
    rw [e1]
    simpa using hown
  · by_cases e : i = k
    · subst e
      simp only [if_true]
      exact (hw1.frame hc1 (fun j hj e => by subst hj; have := hvlt _ e; omega)).frame hset (fun j hj e => by omega)
    · simp only [if_neg e]
      have hik : i < k := by omega
      exact ((h.wh i hik).frame hc2 (fun j hj e => by subst hj; exact (h.nk i hik).2 e)).frame hset (fun j hj e => by subst hj; exact (h.nk i hik).1 e)
  · by_cases e1 : i = k
    · have e2 : ¬ j = k := by omega
      simp only [if_pos e1, if_neg e2]
      have := hBlt j (by omega)
      omega
    · by_cases e2 : j = k
      · simp only [if_neg e1, if_pos e2]
        have := hBlt i (by omega)
        omega
      · simp only [if_neg e1, if_neg e2]
        exact h.ne i j (by omega) (by omega) hij
  · by_cases e : i = k
    · simp only [if_pos e]
      refine ⟨by omega, fun e2 => ?_⟩
      rcases hat with h1 | h1
      · rw [h1] at e2; have := hvlt _ e2; omega
      · rw [h1] at e2; cases e2; omega
    · simp only [if_neg e]
      have hik : i < k := by omega
      refine ⟨(h.nk i hik).1, fun e2 => ?_⟩
      rcases hat with h1 | h1
      · rw [h1] at e2; exact (h.nk i hik).2 e2
      · rw [h1] at e2
        have e3 : (w1.alloc o).heap.size = Bs i := by simpa using e2
        have := hBlt i hik
        omega
  · exact h.bel.trans (((hc2.mono (T := fun j => v.ownBlock = some j ∨ j = K) fun _ e => .inl e).trans (hset.mono fun _ e => .inr e)).below w.heap.size (fun j e => e.elim (fun e => (h.row.lt j e).1) (fun e => by rw [e]; exact h.lo)) h.bel.size)
theorem bnew_bad {cpus : Int} (h : cpus < 1 ∨ 64 < cpus) (now : Int) (w : World) :
    Calls Tryz.prog 4 #[.int .i64 cpus, .int .u64 now] w fun e w' => e = .returned (.tuple #[.pointer none, .int .i64 2]) ∧ w' = w := by
  rcases Int.lt_or_le cpus 1 with h0 | h0
  · have hd : decide (cpus < 1) = true := decide_eq_true h0
    clear h h0
    go_enter Tryz.func4, Tryz.ntmps4
    go_wp2_with fail
    go_ret2
    exact ⟨rfl, rfl⟩
  · have hd : decide (cpus < 1) = false := decide_eq_false (by omega)
    have hd2 : decide (cpus > 64) = true := decide_eq_true (by omega)
    clear h h0
    go_enter Tryz.func4, Tryz.ntmps4
    go_wp2_with fail
    go_ret2
    exact ⟨rfl, rfl⟩
/-- The wheels of a new bank. -/
def newW (Bs : Nat → Nat) (now : Int) : Nat → Wh := fun i => ⟨Bs i, fun j => j = Bs i, now, 0, []⟩
set_option maxRecDepth 100000 in
set_option maxHeartbeats 4000000 in
theorem bnew_ok {n : Nat} (h0 : 1 ≤ n) (h1 : n ≤ 64) {now : Int} (hn : Wd now) (w : World) :
    Calls Tryz.prog 4 #[.int .i64 (n : Int), .int .u64 now] w fun e w' => ∃ K G cap Bs, e = .returned (.tuple #[.pointer (some ⟨K, 0, none⟩), .int .i64 0]) ∧ BK w' w.heap.size K G cap n (newW Bs now) ∧ Below w.heap.size w w' := by
  obtain ⟨i0, hi, hz0, hz1, hz2⟩ := info_parts infoP
  have HN := Lib.hid hn
  have hd : decide ((n : Int) < 1) = false := decide_eq_false (by omega)
  have hd2 : decide ((n : Int) > 64) = false := decide_eq_false (by omega)
  have hbt : Tryz.prog.built 70 [(0, .slice (some ⟨w.heap.size, 0, none⟩) 0 n)] = some #[.slice (some ⟨w.heap.size, 0, none⟩) 0 n] := by kernel_rfl
  clear hn
  go_enter Tryz.func4, Tryz.ntmps4
  go_wp2_with (first
    | (at_make; refine wpList_make_own _ rfl _ _ 68 rfl w.heap.size 71 i0 (.pointer none) 1 Tryz.underlying68 hi hz0 hz1 _ _ _ n rfl rfl rfl (by rw [hz2]; omega) (by unfold maxLen; omega) (Nat.le_refl _) ?_; intro w1 hrow1 hg1)
    | fail)
  have hst : NB w (w1.alloc (.cells #[.slice (some ⟨w.heap.size, 0, none⟩) 0 n] 70)) w1.heap.size 0 (.slice (some ⟨w.heap.size, 0, none⟩) 0 n) (fun _ => 0) now :=
    ⟨cell_new w1 _ _, hrow1.alloc _, fun i hi => by omega, fun i j hi => by omega, fun i hi => by omega, fun e => by
      have h2 : w.heap.size = w1.heap.size := by simpa [Value.ownBlock] using e
      have h3 := (hrow1.lt w.heap.size rfl).2
      omega, hg1.size, ((Below.refl _ w).grown hg1 (Nat.le_refl _) (fun j hj => by cases hj)).alloc hg1.size _⟩
  have HSt := Lib.hid hst
  have HL := Lib.hid hg1.size
  clear hst hrow1 hg1 hbt hd hd2
  go_loopw [18] (fun r wr => ∃ (k : Nat) (v : Value) (Bs : Nat → Nat), k ≤ n ∧ r = .int .i64 (k : Int) ∧ NB w wr w1.heap.size k v Bs now) (fun r _ => n - (intOf r).toNat)
  case atStart => exact ⟨0, _, _, Nat.zero_le _, rfl, HSt.out⟩
  case round =>
    obtain ⟨k, v, Bs, hk, rfl, hnb⟩ := hrel
    by_cases hlt : k < n
    · have hlt' : (k : Int) < (n : Int) := by omega
      obtain ⟨a, cp, rfl⟩ := own_form hnb.row
      have c0 := hnb.bx.1
      have f0 := hnb.bx.2
      have hKlt := cell_lt c0
      have hnd := hnb.drew
      have HNew : Hid (Calls Tryz.prog 24 #[.int .u64 now] wr.drew fun e w2 => e = .returned (.pointer (some ⟨wr.heap.size, 0, none⟩)) ∧ w2.cell? ⟨w1.heap.size, 0, none⟩ = some (.slice a k cp) ∧ w2.ownsRow w.heap.size 71 1 (.slice a k cp) k ((List.range k).map fun i => .pointer (some ⟨Bs i, 0, none⟩)) ∧ w.heap.size ≤ w2.heap.size ∧
          ∀ v' w8, w8.ownsRow w.heap.size 71 1 v' (k + 1) (((List.range k).map fun i => .pointer (some ⟨Bs i, 0, none⟩)) ++ [.pointer (some ⟨wr.heap.size, 0, none⟩)]) → (w2.alloc (.cells #[.pointer (some ⟨wr.heap.size, 0, none⟩)] 71)).grownBy w8 (Value.slice a k cp).ownBlock → (v'.ownBlock = (Value.slice a k cp).ownBlock ∨ v'.ownBlock = some (w2.alloc (.cells #[.pointer (some ⟨wr.heap.size, 0, none⟩)] 71)).heap.size) →
            (w8.cell? ⟨w1.heap.size, 0, none⟩ = some (.slice a k cp) ∧ w8.frozen? ⟨w1.heap.size, 0, none⟩ = false) ∧ NB w (w8.setCell ⟨w1.heap.size, 0, none⟩ v') w1.heap.size (k + 1) v' (fun i => if i = k then wr.heap.size else Bs i) now) :=
        Lib.hid ((new_any HN.out wr.drew hnd.bel.size wr.heap.size rfl).mono fun _ w2 ⟨he, hwb, hc2, hs2⟩ => ⟨he, (hc2.cell (p := ⟨w1.heap.size, 0, none⟩) (cell_lt hnd.bx.1) (by simp)).trans hnd.bx.1, own_ch hnd.row hc2 (by simp), Nat.le_trans hnd.bel.size hc2.size, fun v' w8 k1 k2 k3 => hnd.step rfl hwb hc2 hs2 k1 k2 k3⟩)
      clear hnb hKlt hnd
      go_wp2_with fail
      refine wp_region_noPanic ?_
      refine wp_region_lastL _ (by kernel_rfl) rfl (by kernel_rfl) (fun w' => w'.cell? ⟨w1.heap.size, 0, none⟩ = some (.slice a k cp)) c0 (fun hHeld => ?_)
      simp only [List.dropLast_cons_cons, List.dropLast_singleton, List.length_cons, List.length_nil]
      refine wpAnyH_take (i := 0) (v := ?v1_0) rfl (by kernel_rfl) (by kernel_rfl) (by kernel_rfl) (fun _ _ _ h => h) (Or.inl ⟨by rfl, ?y1_0⟩) (by assumption) ?_
      case y1_0 => intro w hSw; have s0 : w.cell? ⟨w1.heap.size, 0, none⟩ = some (.slice a k cp) := hSw; go_simp; try with_reducible rfl
      try simp only [Act.put, List.getElem_toArray, List.getElem_cons_zero, List.setIfInBounds_toArray, List.set_cons_zero, List.set_cons_succ]
      refine wpAnyH_take (i := 1) (v := ?v1_1) rfl (by kernel_rfl) (by kernel_rfl) (by kernel_rfl) (fun _ _ _ h => h) (Or.inl ⟨by rfl, ?y1_1⟩) (by assumption) ?_
      case y1_1 => intro w hSw; have s0 : w.cell? ⟨w1.heap.size, 0, none⟩ = some (.slice a k cp) := hSw; go_simp; try with_reducible rfl
      try simp only [Act.put, List.getElem_toArray, List.getElem_cons_succ, List.getElem_cons_zero, List.setIfInBounds_toArray, List.set_cons_zero, List.set_cons_succ]
      refine wpAnyH_take (i := 2) (v := ?v1_2) rfl (by kernel_rfl) (by kernel_rfl) (by kernel_rfl) (fun _ _ _ h => h) (Or.inl ⟨by rfl, ?y1_2⟩) (by assumption) ?_
      case y1_2 => intro w hSw; have s0 : w.cell? ⟨w1.heap.size, 0, none⟩ = some (.slice a k cp) := hSw; go_simp; try with_reducible rfl
      try simp only [Act.put, List.getElem_toArray, List.getElem_cons_succ, List.getElem_cons_zero, List.setIfInBounds_toArray, List.set_cons_zero, List.set_cons_succ]
      refine wpAnyH_take (i := 3) (v := ?v1_3) rfl (by kernel_rfl) (by kernel_rfl) (by kernel_rfl) (fun _ _ _ h => h) (Or.inl ⟨by rfl, ?y1_3⟩) (by assumption) ?_
      case y1_3 => intro w hSw; have s0 : w.cell? ⟨w1.heap.size, 0, none⟩ = some (.slice a k cp) := hSw; go_simp; try with_reducible rfl
      try simp only [Act.put, List.getElem_toArray, List.getElem_cons_succ, List.getElem_cons_zero, List.setIfInBounds_toArray, List.set_cons_zero, List.set_cons_succ]
      refine wpAnyH_take (i := 4) (v := ?v1_4) rfl (by kernel_rfl) (by kernel_rfl) (by kernel_rfl) (fun _ _ _ h => h) (Or.inl ⟨by rfl, ?y1_4⟩) (by assumption) ?_
      case y1_4 => intro w hSw; have s0 : w.cell? ⟨w1.heap.size, 0, none⟩ = some (.slice a k cp) := hSw; go_simp; try with_reducible rfl
      try simp only [Act.put, List.getElem_toArray, List.getElem_cons_succ, List.getElem_cons_zero, List.setIfInBounds_toArray, List.set_cons_zero, List.set_cons_succ]
      refine wpAnyH_take (i := 5) (v := ?v1_5) rfl (by kernel_rfl) (by kernel_rfl) (by kernel_rfl) (fun _ _ _ h => h) (Or.inl ⟨by rfl, ?y1_5⟩) (by assumption) ?_
      case y1_5 => intro w hSw; have s0 : w.cell? ⟨w1.heap.size, 0, none⟩ = some (.slice a k cp) := hSw; go_simp; try with_reducible rfl
      try simp only [Act.put, List.getElem_toArray, List.getElem_cons_succ, List.getElem_cons_zero, List.setIfInBounds_toArray, List.set_cons_zero, List.set_cons_succ]
      refine wpAnyH_ready (rs := [6]) (by kernel_rfl) (by simp) ?_
      refine AllReadyH.cons rfl (fun K hK => ?_) AllReadyH.nil
      go_simp
      with_reducible refine HNew.out.mono ?_
      rintro e w2 ⟨rfl, e0, hr2, hs2, hf2⟩
      have e9 := Mk.cell_allocd (.cells #[.pointer (some ⟨wr.heap.size, 0, none⟩)] 71) e0
      have HR2 := Lib.hid hr2
      have HS2 := Lib.hid hs2
      have HF2 := Lib.hid hf2
      clear hr2 hs2 hf2
      refine hK.out _ _ e0 (fun hHeld => ?_)
      clear hK K
      try simp only [Act.put, List.getElem_toArray, List.getElem_cons_succ, List.getElem_cons_zero, List.setIfInBounds_toArray, List.set_cons_zero, List.set_cons_succ]
      refine wpAnyH_ready (rs := [7]) (by kernel_rfl) (by simp) ?_
      refine AllReadyH.cons rfl (fun K hK => ?_) AllReadyH.nil
      go_simp
      refine hK.out _ _ e9 (fun hHeld => ?_)
      clear hK K
      try simp only [Act.put, List.getElem_toArray, List.getElem_cons_succ, List.getElem_cons_zero, List.setIfInBounds_toArray, List.set_cons_zero, List.set_cons_succ]
      refine wpAnyH_ready (rs := [8]) (by kernel_rfl) (by simp) ?_
      refine AllReadyH.cons rfl (fun K hK => ?_) AllReadyH.nil
      refine step_append_own_at rfl (.tmp 24) (.tmp 27) 68 rfl w.heap.size 71 i0 (.pointer none) 1 8 Tryz.underlying68 hi hz0 hz1 hz2 rfl (by decide) (.slice a k cp) k ((List.range k).map fun i => .pointer (some ⟨Bs i, 0, none⟩)) (by simp [Act.eval]) (HR2.out.alloc _) ⟨w2.heap.size, 0, none⟩ 1 1 [.pointer (some ⟨wr.heap.size, 0, none⟩)] (by simp [Act.eval]) rfl (One.new w2 (.pointer (some ⟨wr.heap.size, 0, none⟩)) 71).news (by simp [Value.oneCell']) (by unfold maxLen; omega) (by omega) (by have := HS2.out; simp; omega) ?_
      intro v' w8 hown8 hg8 hat8
      obtain ⟨a8, c8, rfl⟩ := own_form hown8
      obtain ⟨⟨e1, e2⟩, hnb8⟩ := HF2.out _ w8 hown8 hg8 hat8
      have HNb8 := Lib.hid hnb8
      clear hown8 hg8 hat8 hnb8
      refine hK.out _ _ e1 (fun hHeld => ?_)
      clear hK K
      try simp only [Act.put, List.getElem_toArray, List.getElem_cons_succ, List.getElem_cons_zero, List.setIfInBounds_toArray, List.set_cons_zero, List.set_cons_succ]
      refine wpAnyH_take (i := 9) (v := ?v1_9) rfl (by kernel_rfl) (by kernel_rfl) (by kernel_rfl) (fun _ _ _ h => h) (Or.inl ⟨by rfl, ?y1_9⟩) (by assumption) ?_
      case y1_9 => intro w hSw; have s0 : w.cell? ⟨w1.heap.size, 0, none⟩ = some (.slice a k cp) := hSw; go_simp; try with_reducible rfl
      try simp only [Act.put, List.getElem_toArray, List.getElem_cons_succ, List.getElem_cons_zero, List.setIfInBounds_toArray, List.set_cons_zero, List.set_cons_succ]
      refine wpAnyH_take (i := 10) (v := ?v1_10) rfl (by kernel_rfl) (by kernel_rfl) (by kernel_rfl) (fun _ _ _ h => h) (Or.inl ⟨by rfl, ?y1_10⟩) (by assumption) ?_
      case y1_10 => intro w hSw; have s0 : w.cell? ⟨w1.heap.size, 0, none⟩ = some (.slice a k cp) := hSw; go_simp; try with_reducible rfl
      try simp only [Act.put, List.getElem_toArray, List.getElem_cons_succ, List.getElem_cons_zero, List.setIfInBounds_toArray, List.set_cons_zero, List.set_cons_succ]
      refine wpAnyH_done (by kernel_rfl) ?_ _
      unfold lastPost
      simp only []
      go_simp
      refine NoPanic.normal ?_
      go_wp2_with fail
      go_roundw
      case rel => exact ⟨k + 1, _, _, by omega, by go_num, HNb8.out⟩
      case measure => simp [intOf]; omega
    · obtain rfl : k = n := by omega
      have HNb := Lib.hid hnb
      clear hnb
      go_wp2_with fail
      go_ret2
      have hnb := HNb.out
      obtain ⟨a, cp, rfl⟩ := own_form hnb.row
      obtain ⟨G, rfl⟩ : ∃ G, a = some ⟨G, 0, none⟩ := by
        rcases hnb.row.2 with ⟨_, e⟩ | ⟨g, cp', cur, e, _⟩
        · omega
        · cases e; exact ⟨g, rfl⟩
      refine ⟨_, G, cp, Bs, rfl, ⟨hnb.bx.1, fun i hi => ?_, fun i hi => hnb.wh i hi, fun i j hi hj hij b e1 e2 => hnb.ne i j hi hj hij (e1.symm.trans e2), fun i hi => ⟨fun e => (hnb.nk i hi).1 e.symm, fun e => (hnb.nk i hi).2 (by rw [← e]; rfl)⟩, ⟨hnb.lo, (hnb.row.lt G rfl).1⟩, h0, h1, fun i j _ _ _ t ht => by cases ht⟩, hnb.bel⟩
      have := hnb.row.cellAt i (by omega)
      rw [this]
      simp [newW, hi]
end Go.Proofs.YtnndofeomakpiaaGreatDoor

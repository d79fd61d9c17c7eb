/-
  in: how two timers compare.
  in: slices.SortFunc over numbers of timers.
  in: the timers of some slots, in the order in which they were put.
  A loop over a function that keeps its own state in cells: what it turns between its yields is told by St; the caller's word must abide St.
  dues: what its loop keeps, what a round keeps.
  dues, plain: the slots that are due hold just the timers that are due, and in tells them in their order.
  dues: what stands while it runs.
  dues: its loop.
  dues, as a loop ranges over it.
-/
import Derived.Test.YtnndofeomakpiaaGreatDoorMgG
import Derived.Laws.AppendOwnNone
import Derived.RangeFuncNested
import Derived.Scope
import Derived.WalkMore
namespace Go.Proofs.YtnndofeomakpiaaGreatDoor
open Go.RowKit Go.Maps Go.Sort

attribute [local go_sem] Oper.semAt_some

def cmpI (x y : Int) : Int := if x < y then -1 else if y < x then 1 else 0
theorem nan_any (x : Int) (w : World) : Calls Tryz.prog 90 #[.int .u64 x] w fun e w' => e = .returned (.bool false) ∧ w' = w := by
  go_enter Tryz.func90, Tryz.ntmps90
  go_wp2_with fail
  go_ret
  refine ⟨?_, rfl⟩
  rw [show false = (x != x) by simp]
  rfl
theorem cmp_any (x y : Int) (w : World) : Calls Tryz.prog 83 #[.int .u64 x, .int .u64 y] w fun e w' => e = .returned (.int .i64 (cmpI x y)) ∧ w' = w := by
  have HN := Lib.hid nan_any
  unfold cmpI
  by_cases h1 : x < y
  · have hd1 : decide (x < y) = true := decide_eq_true h1
    rw [if_pos h1]
    clear h1
    go_enter Tryz.func83, Tryz.ntmps83
    go_wp2_with (go_at_call 90; refine (HN.out _ _).mono ?_; rintro e w' ⟨rfl, rfl⟩)
    go_ret
    exact ⟨rfl, rfl⟩
  · rw [if_neg h1]
    by_cases h2 : y < x
    · have hd1 : decide (x < y) = false := decide_eq_false h1
      have hd2 : decide (y < x) = true := decide_eq_true h2
      rw [if_pos h2]
      clear h1 h2
      go_enter Tryz.func83, Tryz.ntmps83
      go_wp2_with (go_at_call 90; refine (HN.out _ _).mono ?_; rintro e w' ⟨rfl, rfl⟩)
      go_ret
      exact ⟨rfl, rfl⟩
    · have hd1 : decide (x < y) = false := decide_eq_false h1
      have hd2 : decide (y < x) = false := decide_eq_false h2
      rw [if_neg h2]
      clear h1 h2
      go_enter Tryz.func83, Tryz.ntmps83
      go_wp2_with (go_at_call 90; refine (HN.out _ _).mono ?_; rintro e w' ⟨rfl, rfl⟩)
      go_ret
      exact ⟨rfl, rfl⟩
theorem look_put {w : World} {m : Option Nat} {L : List Tm} (h : HeldAt w m L) (hnd : (L.map (·.id)).Nodup) {t : Tm} (ht : t ∈ L) (hk : wf64 t.id) : (Instr.lookup 102 (.map m) (.int .i64 t.id) false).run Tryz.prog w = .ok (rv t.sp t.put) w := by
  have := (look_run h hk).2
  rwa [(lookV_in hnd ht).1] at this
/-- Two timers, by how many were put ahead of each. -/
theorem less_any {w : World} {B Bx : Nat} {m : Option Nat} {L : List Tm} (hb : w.cell? ⟨Bx, 0, none⟩ = some (.pointer (some ⟨B, 0, none⟩))) (c5 : w.cell? ⟨B, 522, none⟩ = some (.map m)) (hh : HeldAt w m L) (hnd : (L.map (·.id)).Nodup) {t u : Tm} (ht : t ∈ L) (hu : u ∈ L) (hkt : wf64 t.id) (hku : wf64 u.id) :
    Calls Tryz.prog 82 #[.int .i64 t.id, .int .i64 u.id, .pointer (some ⟨Bx, 0, none⟩)] w fun e w' => e = .returned (.int .i64 (cmpI (t.put : Int) (u.put : Int))) ∧ w' = w.drew := by
  have l1 := look_put (w := w.drew) hh hnd ht hkt
  have l2 := look_put (w := w.drew) hh hnd hu hku
  have HC := Lib.hid (cmp_any (t.put : Int) (u.put : Int))
  have b1 : w.drew.cell? ⟨Bx, 0, none⟩ = some (.pointer (some ⟨B, 0, none⟩)) := hb
  have b2 : w.drew.cell? ⟨B, 522, none⟩ = some (.map m) := c5
  obtain ⟨tid, ⟨tl, ts, ta, td⟩, tp⟩ := t
  obtain ⟨uid, ⟨ul, us, ua, ud⟩, up⟩ := u
  unfold rv at l1 l2
  simp only [] at l1 l2 HC
  obtain ⟨r, hr⟩ : ∃ r, r = cmpI (tp : Int) (up : Int) := ⟨_, rfl⟩
  simp only [] at HC ⊢
  rw [← hr] at HC ⊢
  have hf1 : ∀ w : World, (Instr.field 108 (.agg #[.int .i64 (tl : Int), .int .i64 ts, .int .u64 ta, .int .u64 td, .int .u64 (tp : Int)]) 1).run Tryz.prog w = .ok (.int .u64 (tp : Int)) w := fun _ => by kernel_rfl
  have hf2 : ∀ w : World, (Instr.field 108 (.agg #[.int .i64 (ul : Int), .int .i64 us, .int .u64 ua, .int .u64 ud, .int .u64 (up : Int)]) 1).run Tryz.prog w = .ok (.int .u64 (up : Int)) w := fun _ => by kernel_rfl
  clear hh hnd ht hu hkt hku hr hb c5
  go_enter Tryz.func82, Tryz.ntmps82
  go_wp2_with fail
  go_region_held3 (fun w' => w'.cell? ⟨Bx, 0, none⟩ = some (.pointer (some ⟨B, 0, none⟩)) ∧ w'.cell? ⟨B, 522, none⟩ = some (.map m)) (go_keep) ((go_at_call 83; refine (HC.out _).mono ?_; rintro e w1 ⟨rfl, rfl⟩))
  all_goals (go_wp2; go_ret; exact ⟨rfl, rfl⟩)
end Go.Proofs.YtnndofeomakpiaaGreatDoor
namespace Go.Proofs.YtnndofeomakpiaaGreatDoor
open Go.RowKit Go.Maps Go.Sort

theorem nodup_inj {α β : Type} {f : α → β} : ∀ {L : List α}, (L.map f).Nodup → ∀ {a b : α}, a ∈ L → b ∈ L → f a = f b → a = b
  | [], _, a, _, ha, _, _ => by cases ha
  | x :: r, h, a, b, ha, hb, e => by
    rw [List.map_cons, List.nodup_cons] at h
    rcases List.mem_cons.1 ha with rfl | ha'
    · rcases List.mem_cons.1 hb with rfl | hb
      · rfl
      · exact absurd (show f a ∈ r.map f from List.mem_map.2 ⟨b, hb, e.symm⟩) h.1
    · rcases List.mem_cons.1 hb with rfl | hb'
      · exact absurd (show f b ∈ r.map f from List.mem_map.2 ⟨a, ha', e⟩) h.1
      · exact nodup_inj h.2 ha' hb' e
theorem putCells_map {α : Type} [Inhabited α] (f : α → Int) (off : Nat) (d : Array α) (c : Array Value) : putCells (fun y => Value.int .i64 (f y)) off d c = putCells (Value.int .i64) off (d.map f) c := by
  unfold putCells
  congr 1
  funext k x
  rw [Array.size_map]
  split
  · rw [getElem!_pos _ _ (by omega), getElem!_pos _ _ (by simp; omega), Array.getElem_map]
  · rfl
theorem sortWorld_map {α : Type} [Inhabited α] (f : α → Int) (w : World) (g n : Nat) (d : Array α) (os : Array Obj) : sortWorld (fun y => Value.int .i64 (f y)) w g 0 n d os = grow (putRow (Value.int .i64) (Sort.ahead w n) g 0 (d.map f)) os := by
  unfold sortWorld putRow
  rw [show putCells (fun y => Value.int .i64 (f y)) 0 d = putCells (Value.int .i64) 0 (d.map f) from funext fun c => putCells_map f 0 d c]
def cmpT {L : List Tm} (x y : {t // t ∈ L}) : Int := cmpI (x.1.put : Int) (y.1.put : Int)
theorem lt_cmpT {L : List Tm} (x y : {t // t ∈ L}) : ltOf cmpT x y = decide (x.1.put < y.1.put) := by
  unfold ltOf cmpT cmpI
  rw [Bool.eq_iff_iff]
  simp only [decide_eq_true_eq]
  split
  · omega
  · split <;> omega
theorem swo_cmpT (L : List Tm) : SWO (ltOf (cmpT (L := L))) := by
  refine ⟨fun x => ?_, fun x y z h1 h2 => ?_, fun x y z h1 h2 => ?_⟩
  · rw [lt_cmpT]; simp
  · rw [lt_cmpT, decide_eq_true_eq] at *; omega
  · rw [lt_cmpT, decide_eq_false_iff_not] at *; omega

theorem sort_ids {w : World} {base B Bx : Nat} {m : Option Nat} {L : List Tm} (hb : w.cell? ⟨Bx, 0, none⟩ = some (.pointer (some ⟨B, 0, none⟩))) (c5 : w.cell? ⟨B, 522, none⟩ = some (.map m)) (hh : HeldAt w m L) (hnd : (L.map (·.id)).Nodup) (hr : Rising L) (hwf : ∀ t ∈ L, wf64 t.id)
    {v : Value} (ys : List {t // t ∈ L}) (hown : w.ownsRow base 3 1 v ys.length (ys.map fun y => iv y.1.id)) (h1 : v.ownBlock ≠ some Bx) (h2 : v.ownBlock ≠ some B) (h3 : ∀ b, m = some b → v.ownBlock ≠ some b) (hlen : ys.length ≤ 2048) :
    Calls Tryz.prog 81 #[v, .func (.func 82) #[] #[.pointer (some ⟨Bx, 0, none⟩)]] w fun e w' => e = .returned (.tuple #[]) ∧ ∃ zs : List Tm, zs.Perm (ys.map (·.1)) ∧ zs.Pairwise (fun a b => a.put ≤ b.put) ∧
      w'.ownsRow base 3 1 v ys.length (zs.map fun y => iv y.id) ∧ ChP (fun k => v.ownBlock = some k) w w' := by
  by_cases hy : ys = []
  · subst hy
    obtain ⟨a, cp, rfl⟩ := own_form hown
    refine (AnyF.slices_SortFunc_none Tryz.laysSlF06_f81 a cp _ w).mono ?_
    rintro e w' ⟨rfl, rfl⟩
    exact ⟨rfl, [], by simp, by simp, hown, ChP.refl _ _⟩
  · rcases hown.2 with ⟨_, h0⟩ | ⟨g, cap, cur, rfl, hbase, hg, k1, k2, k3, k4⟩
    · exact absurd (List.length_eq_zero_iff.1 h0) hy
    obtain ⟨y0, hy0⟩ := List.exists_mem_of_ne_nil _ hy
    letI : Inhabited {t // t ∈ L} := ⟨y0⟩
    have hgl : g < w.heap.size := (Array.getElem?_eq_some_iff.1 hg).1
    have eg : ∀ args w, (callFunc 82 args).run Tryz.prog w = .ok (.enter 82 args) w := enters_of Tryz.func82 (by kernel_rfl) rfl
    have hch : ∀ n (d : Array {t // t ∈ L}) os, ChP (fun k => k = g) w (sortWorld (fun y : {t // t ∈ L} => Value.int .i64 y.1.id) w g 0 n d os) := fun n d os => by
      rw [sortWorld_map]
      exact .grown (grownBy_sortedI (w := w) (g := g) (n := n) (os := os) _) (fun r e => by cases e; rfl)
    have hcmp : CmpLays1 Tryz.prog 82 #[.pointer (some ⟨Bx, 0, none⟩)] (fun y : {t // t ∈ L} => Value.int .i64 y.1.id) cmpT g 0 ys.toArray.size w := fun n os d _ x y => by
      have hc := hch n d os
      have n1 : ¬ Bx = g := fun e => h1 (by rw [e]; rfl)
      have n2 : ¬ B = g := fun e => h2 (by rw [e]; rfl)
      refine (less_any (hb := (hc.cell (p := ⟨Bx, 0, none⟩) (cell_lt hb) n1).trans hb) (c5 := (hc.cell (p := ⟨B, 522, none⟩) (cell_lt c5) n2).trans c5) (hh.chP hc (fun b e => fun e2 => h3 b e (by rw [e2]; rfl))) hnd x.2 y.2 (hwf _ x.2) (hwf _ y.2)).mono ?_
      rintro e w' ⟨rfl, rfl⟩
      exact ⟨rfl, 1, #[], by rw [grow_empty]; rfl⟩
    have hH : Holds (fun y : {t // t ∈ L} => Value.int .i64 y.1.id) w g 0 ys.toArray := by
      have hI := holds_of_blockI (ss := ys.map fun y => y.1.id) hg (by rw [Nat.mul_one] at k4; rw [List.length_map, k4, List.map_map]; rfl)
      intro j hj
      have hj' : j < ys.length := by simpa using hj
      have := hI j (by simpa using hj')
      rw [getElem!_pos _ _ (by simpa using hj')] at this ⊢
      simpa using this
    refine (Any.slices_SortFunc_total Tryz.laysSlF6_f81 (fun y : {t // t ∈ L} => Value.int .i64 y.1.id) (fun _ => rfl) cmpT (swo_cmpT L) 82 #[.pointer (some ⟨Bx, 0, none⟩)] g 0 cap ys.toArray w eg hcmp hH hgl (by simp; omega) (fun x y e1 e2 => by
      rw [lt_cmpT, decide_eq_false_iff_not] at e1 e2
      exact Subtype.ext (nodup_inj hr.nodup x.2 y.2 (by omega)))).mono ?_
    rintro e w' ⟨rfl, n, os, rfl⟩
    have hp := List.mergeSort_perm ys (fun x y => !(ltOf cmpT) y x)
    refine ⟨rfl, (ys.mergeSort fun x y => !(ltOf cmpT) y x).map (·.1), hp.map _, ?_, ?_, ?_⟩
    · rw [List.pairwise_map]
      refine (List.pairwise_mergeSort (le := fun x y => !(ltOf (cmpT (L := L))) y x) (fun a b c e1 e2 => ?_) (fun a b => ?_) ys).imp (fun {a b} e => ?_)
      · rw [Bool.not_eq_true', lt_cmpT, decide_eq_false_iff_not] at *; omega
      · simp only [lt_cmpT, Bool.or_eq_true, Bool.not_eq_true', decide_eq_false_iff_not]; omega
      · rw [Bool.not_eq_true', lt_cmpT, decide_eq_false_iff_not] at e; omega
    · rw [sortWorld_map]
      have := ownsRow_sortedI (n := n) (os := os) (ss := ys.map fun y => y.1.id) (ts := (ys.mergeSort fun x y => !(ltOf cmpT) y x).map fun y => y.1.id) (by simp) hbase hg (by simpa using k1) k2 k3
      simp only [List.length_map, List.map_map, List.map_toArray] at this ⊢
      exact this
    · exact (hch _ _ _).mono (fun k e => by rw [e]; rfl)
end Go.Proofs.YtnndofeomakpiaaGreatDoor
namespace Go.Proofs.YtnndofeomakpiaaGreatDoor
open Go.RowKit Go.Maps Go.Sort

attribute [local go_sem] Oper.semAt_some

/-- append of a row that may be nil to a row of the call's own, as one operation. -/
theorem wp_append_row {P : Program} {w : World} {o : Oper} {a : Act} {K : Act → World → Prop} {Q : Exit → Act → World → Prop} (s x : Operand) (t : TypeId)
    (ho : o.op = .call { callee := .builtin .append, args := #[s, x], argTypes := #[t, t] })
    (base : Nat) (e : TypeId) (i : TypeInfo) (z : Value) (size bytes : Nat) (ht : P.underlying t = some (.slice e)) (hi : P.info? e = some i) (hz : i.zero = some z)
    (hsize : i.size = size) (hby : i.bytes = bytes) (hzs : z.cells.size = size) (hsz : 0 < size)
    (v : Value) (n : Nat) (xs : List Value) (hs : a.eval s = v) (hown : w.ownsRow base e size v n xs)
    (b2 : Nat) (vx : Value) (m : Nat) (news : List Value) (hx : a.eval x = vx) (hsrc : w.ownsRow b2 e size vx m news) (h1 : ∀ u ∈ news, u.oneCell' = true)
    (h63 : n + m ≤ maxLen) (hbytes : (n + m) * bytes ≤ 140737488355328) (hbase : base ≤ w.heap.size)
    (h : ∀ v' w', w'.ownsRow base e size v' (n + m) (xs ++ news) → w.grownBy w' v.ownBlock → K (a.put o.dst v') w') : o.wp P a w K Q := by
  have hl := hsrc.1
  rcases hsrc.2 with ⟨rfl, rfl⟩ | ⟨g, cp, cur, rfl, _⟩
  · obtain rfl : news = [] := List.eq_nil_of_length_eq_zero (by simpa using hl)
    have hrun := run_append_owned_none (P := P) (w := w) base t o.type e i size ht hi v n xs hown
    unfold Oper.wp
    simp [execOp, ho, resolve, invoke, builtin, hs, hx, hrun, Result.andThen]
    exact h v w (by simpa using hown) ⟨rfl, rfl, rfl, Nat.le_refl _, fun _ _ _ => rfl⟩
  · exact wp_append_own w s x t ho base e i z size bytes ht hi hz hsize hby hzs hsz v n xs hs hown ⟨g, 0, none⟩ m cp news hx hl (hsrc.cells rfl) h1 h63 hbytes hbase
      (fun v' w' h2 h3 _ => h v' w' h2 h3)

/-- Those in a slot. -/
def slotP (p : Nat × Nat) (t : Tm) : Bool := decide ((t.sp.lv : Int) * 64 + t.sp.sl = ((p.1 * 64 + p.2 : Nat) : Int))
def sel (L : List Tm) (K : List (Nat × Nat)) : List {t // t ∈ L} := K.flatMap fun p => L.attach.filter fun t => slotP p t.1
theorem sel_snoc (L : List Tm) (K : List (Nat × Nat)) (p : Nat × Nat) : sel L (K ++ [p]) = sel L K ++ L.attach.filter fun t => slotP p t.1 := by simp [sel]
theorem inSlot_att (L : List Tm) (p : Nat × Nat) : (inSlot L (p.1 * 64 + p.2)).map iv = (L.attach.filter fun t => slotP p t.1).map fun y => iv y.1.id := by
  have h : (L.attach.filter fun t => slotP p t.1).map (·.1) = L.filter (slotP p) := by
    have := List.filter_map (p := slotP p) (f := fun t : {t // t ∈ L} => t.1) (l := L.attach)
    rw [List.attach_map_subtype_val] at this
    exact this.symm
  rw [show (L.attach.filter fun t => slotP p t.1).map (fun y => iv y.1.id) = ((L.attach.filter fun t => slotP p t.1).map (·.1)).map fun t => iv t.id by rw [List.map_map]; rfl, h]
  unfold inSlot
  rw [List.map_map]
  rfl
theorem inSlot_att_len (L : List Tm) (p : Nat × Nat) : (inSlot L (p.1 * 64 + p.2)).length = (L.attach.filter fun t => slotP p t.1).length := by
  have := congrArg List.length (inSlot_att L p)
  rwa [List.length_map, List.length_map] at this
theorem sel_len (L : List Tm) : ∀ K : List (Nat × Nat), (sel L K).length ≤ K.length * L.length
  | [] => by simp [sel]
  | p :: r => by
    have h1 := sel_len L r
    have h2 : (L.attach.filter fun t => slotP p t.1).length ≤ L.length := Nat.le_trans (List.length_filter_le _ _) (by simp)
    show ((L.attach.filter fun t => slotP p t.1) ++ sel L r).length ≤ _
    rw [List.length_append, List.length_cons, Nat.succ_mul]
    omega

set_option maxRecDepth 100000 in
set_option maxHeartbeats 4000000 in
theorem in_any {w : World} {base B : Nat} {S : Nat → Prop} {now : Int} {puts : Nat} {L : List Tm} (h : WB w base B S now puts L) {a : Option Addr} {cap : Nat} {K : List (Nat × Nat)} (hz : SpotsAt w a K.length (zK K)) (hK : ∀ p ∈ K, p.1 < 8 ∧ p.2 < 64) (hlen : K.length ≤ 8) :
    Calls Tryz.prog 72 #[.pointer (some ⟨B, 0, none⟩), .slice a K.length cap] w fun e w' => ∃ (v : Value) (zs : List Tm), e = .returned v ∧ zs.Perm ((sel L K).map (·.1)) ∧ zs.Pairwise (fun a b => a.put ≤ b.put) ∧
      w'.ownsRow w.heap.size 3 1 v zs.length (zs.map fun y => iv y.id) ∧ Ch [] w w' := by
  have HW := Lib.hid h
  have HZ := Lib.hid hz
  have HK := Lib.hid hK
  have hB := h.hi B h.own
  have hLL := h.wi.len
  obtain ⟨i0, hi, hz0, hz1, hz2⟩ := iinfo
  obtain ⟨n, hn⟩ : ∃ n, n = K.length := ⟨_, rfl⟩
  rw [← hn] at hlen HZ ⊢
  have HN := Lib.hid hn
  obtain ⟨W0, hW0⟩ : ∃ W0, W0 = w.alloc (.cells #[.pointer (some ⟨B, 0, none⟩)] 71) := ⟨_, rfl⟩
  have HC0 := Lib.hid (show Ch [] w W0 by rw [hW0]; exact (Ch.refl [] w).alloc _)
  have hb0 : W0.cell? ⟨w.heap.size, 0, none⟩ = some (.pointer (some ⟨B, 0, none⟩)) := by rw [hW0]; exact (cell_new w _ _).1
  have hs0 : W0.heap.size = w.heap.size + 1 := by rw [hW0]; simp
  clear h hz hK hn
  go_enter Tryz.func72, Tryz.ntmps72
  go_wp2_with fail
  rw [← hW0]
  clear hW0
  go_loopw [5, 10] (fun v i wr => ∃ k : Nat, k ≤ n ∧ i = .int .i64 (k : Int) ∧ wr.ownsRow (w.heap.size + 1) 3 1 v (sel L (K.take k)).length ((sel L (K.take k)).map fun y => iv y.1.id) ∧ Below (w.heap.size + 1) W0 wr) (fun _ i _ => n - (intOf i).toNat)
  case atStart => exact ⟨0, Nat.zero_le _, rfl, World.ownsRow_nil _ _ _ _, Below.refl _ _⟩
  case round =>
    obtain ⟨k, hk, rfl, hown, hBe⟩ := hrel
    have hCr : Ch [] W0 wr := ⟨hBe.os, hBe.tape, hBe.output, hBe.size, fun j hj _ => hBe.block j (by omega)⟩
    have HCr := Lib.hid (HC0.out.trans hCr)
    have hbr := (hCr.cell (p := ⟨w.heap.size, 0, none⟩) (by show w.heap.size < _; omega) (by simp)).trans hb0
    have hsr := hBe.size
    have HBe := Lib.hid hBe
    have HO := Lib.hid hown
    by_cases hlt : k < n
    · obtain ⟨b, off, rfl, hcell⟩ := (HZ.out.ch HCr.out).at'.resolve_left (by omega)
      obtain ⟨p0, p1, p2, p3⟩ := hcell k hlt
      have hk' : k < K.length := by rw [← HN.out]; exact hlt
      have hmem : K[k]?.getD (0, 0) ∈ K := by rw [List.getElem?_eq_getElem hk']; exact List.getElem_mem _
      have HT := Lib.hid (spot_snoc K hk')
      obtain ⟨q1, q2⟩ := HK.out _ hmem
      unfold zK at p0 p1 p2 p3
      simp only [] at p0 p1 p2 p3
      generalize K[k]?.getD (0, 0) = p at *
      obtain ⟨pn, ps⟩ := p
      simp only [] at p0 p1 q1 q2
      have hi5 : pn * 64 + ps < 512 := by omega
      have HWr := Lib.hid (HW.out.quiet HCr.out)
      obtain ⟨vs, hv1, _⟩ := HWr.out.wc.slots
      obtain ⟨hvc, hvr, _⟩ := hv1 _ hi5
      rw [show 2 + (pn * 64 + ps) = 2 + pn * 64 + ps by omega] at hvc
      rw [show (inSlot L (pn * 64 + ps)).map iv = _ from inSlot_att L (pn, ps), show (inSlot L (pn * 64 + ps)).length = _ from inSlot_att_len L (pn, ps)] at hvr
      generalize vs (pn * 64 + ps) = v0 at *
      have hsl := sel_len L (K.take k)
      have hlA : (L.attach.filter fun t => slotP (pn, ps) t.1).length ≤ L.length := Nat.le_trans (List.length_filter_le _ _) (by simp)
      have HA := Lib.hid (show (sel L (K.take k)).length ≤ 2048 ∧ (L.attach.filter fun t => slotP (pn, ps) t.1).length ≤ 256 from ⟨by
        have h1 : (K.take k).length ≤ 8 := by simp; omega
        exact Nat.le_trans hsl (Nat.le_trans (Nat.mul_le_mul h1 hLL) (by decide)), by omega⟩)
      have HSn := Lib.hid (show sel L (K.take (k + 1)) = sel L (K.take k) ++ L.attach.filter fun t => slotP (pn, ps) t.1 by rw [HT.out, sel_snoc])
      generalize (L.attach.filter fun t => slotP (pn, ps) t.1) = news at *
      have hk0 : (0 : Int) ≤ (k : Int) := by omega
      have hk1 : (k : Int) < (n : Int) := by omega
      have b0 : (0 : Int) ≤ (pn : Int) := by omega
      have b1 : (pn : Int) < 8 := by omega
      have b2 : (0 : Int) ≤ (ps : Int) := by omega
      have b3 : (ps : Int) < 64 := by omega
      obtain ⟨W2, hW2⟩ : ∃ W2, W2 = (wr.alloc (.cells #[.int .i64 (pn : Int), .int .i64 (ps : Int), .int .u64 0, .int .u64 0] 40)).drew := ⟨_, rfl⟩
      have HC2 := Lib.hid (show Ch [] wr W2 by rw [hW2]; exact ((Ch.refl [] wr).alloc _).drew)
      obtain ⟨f0, f1, _, _⟩ := Four.new wr (.int .i64 (pn : Int)) (.int .i64 (ps : Int)) (.int .u64 0) (.int .u64 0) 40
      have e0 : W2.cell? ⟨wr.heap.size, 0, none⟩ = some (.int .i64 (pn : Int)) := by rw [hW2]; exact f0
      have e1 : W2.cell? ⟨wr.heap.size, 1, none⟩ = some (.int .i64 (ps : Int)) := by rw [hW2]; exact f1
      have eb : W2.cell? ⟨w.heap.size, 0, none⟩ = some (.pointer (some ⟨B, 0, none⟩)) := (HC2.out.cell (p := ⟨w.heap.size, 0, none⟩) (cell_lt hbr) (by simp)).trans hbr
      have ev : W2.cell? ⟨B, 2 + pn * 64 + ps, none⟩ = some v0 := (HC2.out.cell (p := ⟨B, 2 + pn * 64 + ps, none⟩) (cell_lt hvc) (by simp)).trans hvc
      have HE := Lib.hid (And.intro eb (And.intro e0 (And.intro e1 ev)))
      have HO2 := Lib.hid (own_chP HO.out (.quiet HC2.out) (S := fun _ => False) (fun _ _ h => h))
      have HV2 := Lib.hid (own_chP hvr (.quiet HC2.out) (S := fun _ => False) (fun _ _ h => h))
      have HB2 := Lib.hid (show Below (w.heap.size + 1) W0 W2 by rw [hW2]; exact (HBe.out.alloc (by omega) _).drew)
      have HG2 := Lib.hid (show w.heap.size + 1 ≤ W2.heap.size from Nat.le_trans (by omega) HB2.out.size)
      have HAt := Lib.hid HO.out.lt
      clear hown hBe hCr hcell hvc hvr hv1 f0 f1 e0 e1 eb ev HO hsl hlA hmem HWr
      go_wp2_with fail
      refine wp_region_noPanic ?_
      refine wp_region_lastL _ (by kernel_rfl) rfl (by kernel_rfl) (fun w' => w'.cell? ⟨w.heap.size, 0, none⟩ = some (.pointer (some ⟨B, 0, none⟩)) ∧ w'.cell? ⟨wr.heap.size, 0, none⟩ = some (.int .i64 (pn : Int)) ∧ w'.cell? ⟨wr.heap.size, 1, none⟩ = some (.int .i64 (ps : Int)) ∧ w'.cell? ⟨B, 2 + pn * 64 + ps, none⟩ = some v0) (hW2 ▸ HE.out) (fun hHeld => ?_)
      simp only [List.dropLast_cons_cons, List.dropLast_singleton, List.length_cons, List.length_nil]
      refine wpAnyH_take (i := 0) (v := ?v5_0) rfl (by kernel_rfl) (by kernel_rfl) (by kernel_rfl) (fun _ _ _ h => h) (Or.inl ⟨by rfl, ?y5_0⟩) (by assumption) ?_
      case y5_0 => intro w hSw; obtain ⟨s0, s1, s2, s3⟩ := hSw; go_simp; try with_reducible rfl
      try simp only [Act.put, List.getElem_toArray, List.getElem_cons_zero, List.setIfInBounds_toArray, List.set_cons_zero, List.set_cons_succ]
      refine wpAnyH_take (i := 1) (v := ?v5_1) rfl (by kernel_rfl) (by kernel_rfl) (by kernel_rfl) (fun _ _ _ h => h) (Or.inl ⟨by rfl, ?y5_1⟩) (by assumption) ?_
      case y5_1 => intro w hSw; obtain ⟨s0, s1, s2, s3⟩ := hSw; go_simp; try with_reducible rfl
      try simp only [Act.put, List.getElem_toArray, List.getElem_cons_succ, List.getElem_cons_zero, List.setIfInBounds_toArray, List.set_cons_zero, List.set_cons_succ]
      refine wpAnyH_take (i := 2) (v := ?v5_2) rfl (by kernel_rfl) (by kernel_rfl) (by kernel_rfl) (fun _ _ _ h => h) (Or.inl ⟨by rfl, ?y5_2⟩) (by assumption) ?_
      case y5_2 => intro w hSw; obtain ⟨s0, s1, s2, s3⟩ := hSw; go_simp; try with_reducible rfl
      try simp only [Act.put, List.getElem_toArray, List.getElem_cons_succ, List.getElem_cons_zero, List.setIfInBounds_toArray, List.set_cons_zero, List.set_cons_succ]
      refine wpAnyH_take (i := 3) (v := ?v5_3) rfl (by kernel_rfl) (by kernel_rfl) (by kernel_rfl) (fun _ _ _ h => h) (Or.inl ⟨by rfl, ?y5_3⟩) (by assumption) ?_
      case y5_3 => intro w hSw; obtain ⟨s0, s1, s2, s3⟩ := hSw; go_simp; try with_reducible rfl
      try simp only [Act.put, List.getElem_toArray, List.getElem_cons_succ, List.getElem_cons_zero, List.setIfInBounds_toArray, List.set_cons_zero, List.set_cons_succ]
      refine wpAnyH_take (i := 4) (v := ?v5_4) rfl (by kernel_rfl) (by kernel_rfl) (by kernel_rfl) (fun _ _ _ h => h) (Or.inl ⟨by rfl, ?y5_4⟩) (by assumption) ?_
      case y5_4 => intro w hSw; obtain ⟨s0, s1, s2, s3⟩ := hSw; go_simp; try with_reducible rfl
      try simp only [Act.put, List.getElem_toArray, List.getElem_cons_succ, List.getElem_cons_zero, List.setIfInBounds_toArray, List.set_cons_zero, List.set_cons_succ]
      refine wpAnyH_take (i := 5) (v := ?v5_5) rfl (by kernel_rfl) (by kernel_rfl) (by kernel_rfl) (fun _ _ _ h => h) (Or.inl ⟨by rfl, ?y5_5⟩) (by assumption) ?_
      case y5_5 => intro w hSw; obtain ⟨s0, s1, s2, s3⟩ := hSw; go_simp; try with_reducible rfl
      try simp only [Act.put, List.getElem_toArray, List.getElem_cons_succ, List.getElem_cons_zero, List.setIfInBounds_toArray, List.set_cons_zero, List.set_cons_succ]
      refine wpAnyH_take (i := 6) (v := ?v5_6) rfl (by kernel_rfl) (by kernel_rfl) (by kernel_rfl) (fun _ _ _ h => h) (Or.inl ⟨by rfl, ?y5_6⟩) (by assumption) ?_
      case y5_6 => intro w hSw; obtain ⟨s0, s1, s2, s3⟩ := hSw; go_simp; try with_reducible rfl
      try simp only [Act.put, List.getElem_toArray, List.getElem_cons_succ, List.getElem_cons_zero, List.setIfInBounds_toArray, List.set_cons_zero, List.set_cons_succ]
      refine wpAnyH_take (i := 7) (v := ?v5_7) rfl (by kernel_rfl) (by kernel_rfl) (by kernel_rfl) (fun _ _ _ h => h) (Or.inl ⟨by rfl, ?y5_7⟩) (by assumption) ?_
      case y5_7 => intro w hSw; obtain ⟨s0, s1, s2, s3⟩ := hSw; go_simp; try with_reducible rfl
      try simp only [Act.put, List.getElem_toArray, List.getElem_cons_succ, List.getElem_cons_zero, List.setIfInBounds_toArray, List.set_cons_zero, List.set_cons_succ]
      refine wpAnyH_take (i := 8) (v := ?v5_8) rfl (by kernel_rfl) (by kernel_rfl) (by kernel_rfl) (fun _ _ _ h => h) (Or.inl ⟨by rfl, ?y5_8⟩) (by assumption) ?_
      case y5_8 => intro w hSw; obtain ⟨s0, s1, s2, s3⟩ := hSw; go_simp; try with_reducible rfl
      try simp only [Act.put, List.getElem_toArray, List.getElem_cons_succ, List.getElem_cons_zero, List.setIfInBounds_toArray, List.set_cons_zero, List.set_cons_succ]
      refine wpAnyH_take (i := 9) (v := ?v5_9) rfl (by kernel_rfl) (by kernel_rfl) (by kernel_rfl) (fun _ _ _ h => h) (Or.inl ⟨by rfl, ?y5_9⟩) (by assumption) ?_
      case y5_9 => intro w hSw; obtain ⟨s0, s1, s2, s3⟩ := hSw; go_simp; try with_reducible rfl
      try simp only [Act.put, List.getElem_toArray, List.getElem_cons_succ, List.getElem_cons_zero, List.setIfInBounds_toArray, List.set_cons_zero, List.set_cons_succ]
      refine wpAnyH_take (i := 10) (v := ?v5_10) rfl (by kernel_rfl) (by kernel_rfl) (by kernel_rfl) (fun _ _ _ h => h) (Or.inl ⟨by rfl, ?y5_10⟩) (by assumption) ?_
      case y5_10 => intro w hSw; obtain ⟨s0, s1, s2, s3⟩ := hSw; go_simp; try with_reducible rfl
      try simp only [Act.put, List.getElem_toArray, List.getElem_cons_succ, List.getElem_cons_zero, List.setIfInBounds_toArray, List.set_cons_zero, List.set_cons_succ]
      refine wpAnyH_ready (rs := [11]) (by kernel_rfl) (by simp) ?_
      refine AllReadyH.cons rfl (fun K2 hK2 => ?_) AllReadyH.nil
      rw [← hW2, if_pos (by simp [Region.wanted])]
      refine wp_append_row (.tmp 14) (.tmp 24) 24 rfl (w.heap.size + 1) 3 i0 (.int .i64 0) 1 8 Tryz.underlying24 hi hz0 hz1 hz2 rfl (by decide) _ _ _ ?hs HO2.out base v0 _ _ ?hx HV2.out (fun u hu => by obtain ⟨y, _, rfl⟩ := List.mem_map.1 hu; rfl) (by have := HA.out; unfold maxLen; omega) (by have := HA.out; omega) HG2.out ?_
      case hs => rfl
      case hx => rfl
      intro v' w3 hown' hgrow
      have hc3 := ChP.grown (S := fun k => w.heap.size + 1 ≤ k ∧ k < wr.heap.size) hgrow (fun r e => HAt.out r e)
      have hs3 : w3.cell? ⟨w.heap.size, 0, none⟩ = some (.pointer (some ⟨B, 0, none⟩)) ∧ w3.cell? ⟨wr.heap.size, 0, none⟩ = some (.int .i64 (pn : Int)) ∧ w3.cell? ⟨wr.heap.size, 1, none⟩ = some (.int .i64 (ps : Int)) ∧ w3.cell? ⟨B, 2 + pn * 64 + ps, none⟩ = some v0 := by
        obtain ⟨t0, t1, t2, t3⟩ := HE.out
        have hwr := hsr
        exact ⟨(hc3.cell (p := ⟨w.heap.size, 0, none⟩) (cell_lt t0) (by show ¬ (w.heap.size + 1 ≤ w.heap.size ∧ _); omega)).trans t0,
          (hc3.cell (p := ⟨wr.heap.size, 0, none⟩) (cell_lt t1) (by show ¬ (_ ∧ wr.heap.size < wr.heap.size); omega)).trans t1,
          (hc3.cell (p := ⟨wr.heap.size, 1, none⟩) (cell_lt t2) (by show ¬ (_ ∧ wr.heap.size < wr.heap.size); omega)).trans t2,
          (hc3.cell (p := ⟨B, 2 + pn * 64 + ps, none⟩) (cell_lt t3) (by show ¬ (w.heap.size + 1 ≤ B ∧ _); omega)).trans t3⟩
      have HB3 := Lib.hid (HB2.out.grown hgrow HG2.out (fun k' e => (HAt.out k' e).1))
      have HO3 := Lib.hid hown'
      clear hown' hgrow hc3
      refine hK2.out _ _ hs3 (fun hHeld => ?_)
      clear hK2 K2 hs3
      try simp only [Act.put, List.getElem_toArray, List.getElem_cons_succ, List.getElem_cons_zero, List.setIfInBounds_toArray, List.set_cons_zero, List.set_cons_succ]
      refine wpAnyH_done (by kernel_rfl) ?_ _
      unfold lastPost
      simp only []
      go_simp
      refine NoPanic.normal ?_
      go_wp2_with fail
      go_roundw
      case rel => exact ⟨k + 1, by omega, by go_num, by rw [HSn.out, List.length_append, List.map_append]; simpa using HO3.out, HB3.out⟩
      case measure => simp [intOf]; omega
    · obtain rfl : k = n := by omega
      have hKt : K.take k = K := by rw [HN.out]; exact List.take_length
      rw [hKt] at HO
      have HWr := HW.out.quiet HCr.out
      have hsl := sel_len L K
      have HLe := Lib.hid (show (sel L K).length ≤ 2048 from Nat.le_trans hsl (Nat.le_trans (Nat.mul_le_mul (show K.length ≤ 8 by rw [← HN.out]; exact hlen) hLL) (by decide)))
      obtain ⟨m, c5, hh, hmS⟩ := HWr.held
      have HSo := Lib.hid (sort_ids hbr c5 hh HWr.wi.nd HWr.wi.rise (fun t ht => wf_small (HWr.wi.ids t ht).1 (HWr.wi.ids t ht).2) (sel L K) HO.out
        (fun e => by have := (HO.out.lt _ e).1; omega) (fun e => by have := (HO.out.lt _ e).1; omega) (fun b e e2 => by have h1 := (HO.out.lt _ e2).1; have h2 := HW.out.hi b (hmS b e).1; omega) HLe.out)
      have HAt := Lib.hid (fun g e => (HO.out.lt g e).1)
      clear hown hBe hCr hsl hKt c5 hh hmS HWr
      go_wp2_with (first | (go_at_call 81; refine HSo.out.mono ?_; rintro e w3 ⟨rfl, zs, hp, hpw, hrow, hc3⟩; have HP := Lib.hid (And.intro hp hpw); have HR3 := Lib.hid hrow; have HC3 := Lib.hid hc3; clear hp hpw hrow hc3) | fail)
      go_ret
      have hl : (sel L K).length = zs.length := by have := HP.out.1.length_eq; simpa using this.symm
      have hr3 := HR3.out
      rw [hl] at hr3
      refine ⟨_, zs, rfl, HP.out.1, HP.out.2, own_mono hr3 (show w.heap.size ≤ w.heap.size + 1 by omega), ?_⟩
      have h1 := (ChP.fresh (S := fun _ => False) (.quiet HCr.out) (HC3.out.mono (T := fun k => w.heap.size + 1 ≤ k) (fun k e => HAt.out k e)) (fun k e => .inr (by omega)))
      exact h1.ch (fun _ h => h)
end Go.Proofs.YtnndofeomakpiaaGreatDoor
namespace Go.Proofs.YtnndofeomakpiaaGreatDoor
open Go.RowKit

/-- The contract of such a function. -/
def SeqW {α : Type} (F : Fence) (n : Nat) (P : Program) (g : Nat) (lb : Array Value) (encs : α → Array Value) (St Kp : World → World → Prop) (S Sp : List α → Prop) (N : Nat) (w : World) : Prop :=
  ∀ (l : Nat) (J Jx : List α → World → Prop) (W : World), Below w.heap.size w W → (∀ s A B, J s A → St A B → J s B) →
    (∀ pre x W1, J pre W1 → pre.length < N → YieldAt F (n - 1) P l (encs x) W1 fun e W' => (e = .returned (.bool true) ∧ J (pre ++ [x]) W' ∧ Kp W1 W') ∨ (e = .returned (.bool false) ∧ Jx (pre ++ [x]) W')) →
    J [] W → CallsIn F n P g (#[.func (.yield l) #[] #[]] ++ lb) W fun e W' => (∃ v, e = .returned v) ∧ ((∃ xs, S xs ∧ J xs W') ∨ (∃ pre, Sp pre ∧ Jx pre W'))

theorem wpIn_range_st {F : Fence} {n : Nat} {P : Program} {w : World} {α : Type} {g : Operand} {ps : Array Tmp} {assign body : Code} {Q : Exit → Act → World → Prop} {a : Act}
    (hro : F.round = none) (h1 : 1 ≤ n) {gf : Nat} {lb : Array Value} (hg : a.eval g = .func (.func gf) #[] lb) (hFg : F.fn gf) (eg : ∀ args w, (callFunc gf args).run P w = .ok (.enter gf args) w)
    {encs : α → Array Value} {St Kp : World → World → Prop} {S Sp : List α → Prop} {N : Nat} (hseq : SeqW F (n - 1) P gf lb encs St Kp S Sp N w)
    (hSt : ∀ A B, St A B → ∀ (k : Nat) (o : Obj), A.heap[k]? = some o → o.isCells = false → o.isWalk = false → B.heap[k]? = some o)
    (hKt : ∀ {A B C : World}, Kp A B → Kp B C → Kp A C) (hKb : ∀ (W : World) (l : Nat) (o o' : Obj), w.heap.size ≤ l → W.heap[l]? = some o → o.isCells = false → o.isWalk = false → o'.isCells = false → Kp W (W.putObj l o')) (hps : ∀ x, (encs x).size = ps.size)
    (I : List α → World → Prop) (Ix : Code → List α → World → Prop) (hI : OwnFrom w.heap.size I) (hIs : ∀ s A B, I s A → St A B → I s B) (hIx : ∀ c, OwnFrom w.heap.size (Ix c)) (h0 : I [] w) (a₁ : α → Act)
    (hassign : ∀ (l : Nat) (x : α) (W : World) (K : Act → World → Prop), K (a₁ x) W → assign.wpIn (F.inRound l) (n - 1 - 1) P (Exit.then K (fun _ _ _ => False)) { tmps := (ps.zip (encs x)).foldl (fun t (p, v) => t.setIfInBounds p v) a.tmps, defers := [] } W)
    (hbody : ∀ (l : Nat) (pre : List α) (x : α) (W : World), I pre W → pre.length < N → body.wpIn (F.inRound l) (n - 1 - 1) P (ownPostG w.heap.size Kp I Ix (pre ++ [x]) W) (a₁ x) W)
    (hdone : ∀ (D : Nat) (xs : List α) (W : World), w.heap.size ≤ D → S xs → I xs W → W.heap[D]? = some (.deferred (some [])) → Q .normal { a with defers := { target := .collected D, args := #[] } :: a.defers } W)
    (hstop : ∀ (D : Nat) (c : Code) (pre : List α) (W : World), w.heap.size ≤ D → Sp pre → Ix c pre W → W.heap[D]? = some (.deferred (some [])) → c.wpIn F n P Q { a with defers := { target := .collected D, args := #[] } :: a.defers } W) :
    (Code.rangeFunc g ps assign body).wpIn F n P Q a w := by
  refine wpIn_rangeFunc fun fn hfn => ?_
  rw [hro]
  obtain ⟨rec, hrec⟩ : ∃ rec : LoopState → Option Code → Loop, rec = fun st pe => { state := st, pending := pe, fn, tmps := a.tmps, params := ps, assign, body, defers := w.heap.size } := ⟨_, rfl⟩
  obtain ⟨d, hd⟩ : ∃ d, d = w.heap.size := ⟨_, rfl⟩
  obtain ⟨W1, hW1⟩ : ∃ W1, W1 = (w.alloc (.deferred (some []))).alloc (.loop (rec .ready none)) := ⟨_, rfl⟩
  have hL1 : W1.heap[d + 1]? = some (.loop (rec .ready none)) := by
    have := World.alloc_heap_new (w.alloc (.deferred (some []))) (.loop (rec .ready none))
    rwa [World.size_alloc, ← hd, ← hW1] at this
  have hK1 : W1.heap[d]? = some (.deferred (some [])) := by
    rw [hW1, hd]
    exact (Below.heap_alloc _ _ _ (by simp)).trans (World.alloc_heap_new w _)
  have hI1 : I [] W1 := by rw [hW1]; exact hI.alloc _ (hI.alloc _ h0)
  have hb1 : Below w.heap.size w W1 := by rw [hW1]; exact ((Below.refl _ w).alloc (Nat.le_refl _) _).alloc (by simp) _
  refine ⟨d + 1, [{ target := .collected d, args := #[] }], W1, { target := .fn (.func gf) lb, args := #[.func (.yield (d + 1)) #[] #[]] }, W1, gf, #[.func (.yield (d + 1)) #[] #[]] ++ lb, W1, ?_, ?_, ?_, ?_, fun _ => h1, ?_⟩
  · rw [hW1, hrec, hd]
    exact run_enterLoop_outer _ _ _ _ _
  · simp only [resolve, hg]
    simp [go_sem]
  · intro f' hf'
    simp [Target.leads] at hf'
    subst hf'
    exact hFg
  · simp [invoke, go_sem, eg]
  · refine (hseq (d + 1) (fun pre W => I pre W ∧ W.heap[d + 1]? = some (.loop (rec .ready none)) ∧ W.heap[d]? = some (.deferred (some []))) (fun pre W => ∃ c, Ix c pre W ∧ W.heap[d + 1]? = some (.loop (rec .done (some c))) ∧ W.heap[d]? = some (.deferred (some []))) W1 hb1
      (fun s A B hs hAB => ⟨hIs s A B hs.1 hAB, hSt A B hAB _ _ hs.2.1 rfl rfl, hSt A B hAB _ _ hs.2.2 rfl rfl⟩) ?_ ⟨hI1, hL1, hK1⟩).mono ?_
    · rintro pre x W ⟨hi, hl, hk⟩ hlen
      have hlt : d + 1 < W.heap.size := (Array.getElem?_eq_some_iff.1 hl).1
      have hy := run_yield (P := P) (args := encs x) hl (by rw [hrec]; exact hps x)
      rw [hrec] at hy
      refine ⟨fn, _, assign, body, hy, roundIn_of_wpIn hfn (hassign _ x W _ ?_)⟩
      refine ⟨_, run_beginRound hl (by rw [hrec]), ?_⟩
      obtain ⟨Wb, hWb⟩ : ∃ Wb, Wb = W.putObj (d + 1) (.loop { rec .ready none with state := .busy }) := ⟨_, rfl⟩
      have hl2 : Wb.heap[d + 1]? = some (.loop { rec .ready none with state := .busy }) := by rw [hWb]; exact World.putObj_heap_same hlt
      have hk2 : Wb.heap[d]? = some (.deferred (some [])) := by rw [hWb]; exact (World.putObj_heap_other (by omega)).trans hk
      have hi2 : I pre Wb := by rw [hWb]; exact hI.putObj _ hi (by omega) hl rfl
      have hw2 : Kp W Wb := by rw [hWb]; exact hKb _ _ _ _ (by omega) hl rfl rfl rfl
      rw [← hWb]
      refine wpIn_mono (hbody _ pre x Wb hi2 hlen) ?_
      have fin : ∀ (jump : Option Code) (W3 : World), KeepsFrom w.heap.size Wb W3 → ∃ W4, W4 = W3.putObj (d + 1) (.loop (rec (if jump.isNone then .ready else .done) jump)) ∧
          (Instr.endRound (d + 1) jump).run P W3 = .ok (.bool jump.isNone) W4 ∧ W3.heap[d + 1]? = some (.loop { rec .ready none with state := .busy }) ∧
          W4.heap[d + 1]? = some (.loop (rec (if jump.isNone then .ready else .done) jump)) ∧ W4.heap[d]? = some (.deferred (some [])) := fun jump W3 hk3 => by
        have hl3 := hk3.same _ _ (by omega) hl2 rfl
        refine ⟨_, rfl, ?_, hl3, World.putObj_heap_same (Array.getElem?_eq_some_iff.1 hl3).1, (World.putObj_heap_other (by omega)).trans (hk3.same _ _ (by omega) hk2 rfl)⟩
        have := run_endRound (P := P) jump hl3
        rw [hrec] at this ⊢
        exact this
      rintro e a3 W3 hp
      cases e with
      | normal =>
        obtain ⟨hk3, hkp3, hi3⟩ := hp
        obtain ⟨W4, e4, hr, hl3, hl4, hk4⟩ := fin none W3 hk3
        refine ⟨_, _, hr, .inl ⟨rfl, ⟨?_, hl4, hk4⟩, hKt hw2 (hKt hkp3 ?_)⟩⟩
        · rw [e4]; exact hI.putObj _ hi3 (by omega) hl3 rfl
        · rw [e4]; exact hKb _ _ _ _ (by omega) hl3 rfl rfl rfl
      | ret =>
        obtain ⟨hk3, hi3⟩ := hp
        obtain ⟨W4, e4, hr, hl3, hl4, hk4⟩ := fin (some .ret) W3 hk3
        exact ⟨_, _, hr, .inr ⟨rfl, .ret, by rw [e4]; exact (hIx _).putObj _ hi3 (by omega) hl3 rfl, hl4, hk4⟩⟩
      | exit id =>
        obtain ⟨hk3, hi3⟩ := hp
        obtain ⟨W4, e4, hr, hl3, hl4, hk4⟩ := fin (some (.exit id)) W3 hk3
        exact ⟨_, _, hr, .inr ⟨rfl, .exit id, by rw [e4]; exact (hIx _).putObj _ hi3 (by omega) hl3 rfl, hl4, hk4⟩⟩
      | goto t =>
        obtain ⟨hk3, hi3⟩ := hp
        obtain ⟨W4, e4, hr, hl3, hl4, hk4⟩ := fin (some (.goto t)) W3 hk3
        exact ⟨_, _, hr, .inr ⟨rfl, .goto t, by rw [e4]; exact (hIx _).putObj _ hi3 (by omega) hl3 rfl, hl4, hk4⟩⟩
      | panic ch => exact hp.elim
      | outgrown => exact hp.elim
    · rintro e W2 ⟨⟨v, rfl⟩, (⟨xs, hS, hi, hl, hk⟩ | ⟨pre, hSp, c, hi, hl, hk⟩)⟩
      · refine ⟨none, _, by have := run_endLoop (P := P) hl (by rw [hrec]; simp); rw [hrec] at this; exact this, ?_⟩
        have := hdone d xs (W2.putObj (d + 1) (.loop { rec .ready none with state := .exhausted })) (by omega) hS (hI.putObj _ hi (by omega) hl rfl) ((World.putObj_heap_other (by omega)).trans hk)
        rw [hrec] at this
        exact this
      · refine ⟨some c, _, by have := run_endLoop (P := P) hl (by rw [hrec]; simp); rw [hrec] at this; exact this, ?_⟩
        have := hstop d c pre (W2.putObj (d + 1) (.loop { rec .done (some c) with state := .exhausted })) (by omega) hSp ((hIx c).putObj _ hi (by omega) hl rfl) ((World.putObj_heap_other (by omega)).trans hk)
        rw [hrec] at this
        exact this
end Go.Proofs.YtnndofeomakpiaaGreatDoor
namespace Go.Proofs.YtnndofeomakpiaaGreatDoor
open Go.RowKit Go.Maps Go.Sort

/-- Block k is the row that the cell at b shows. -/
def rowAt (W : World) (b k : Nat) : Prop := ∃ v, W.cell? ⟨b, 0, none⟩ = some v ∧ v.ownBlock = some k
/-- What dues turns between its yields: cells of its own. -/
structure St7 (b n₁ : Nat) (A B : World) : Prop where
  os : B.os = A.os
  tape : B.tape = A.tape
  output : B.output = A.output
  size : A.heap.size ≤ B.heap.size
  keep : ∀ k, k < A.heap.size → (k < n₁ ∨ (∀ o : Obj, A.heap[k]? = some o → o.isCells = false) ∨ rowAt A b k) → B.heap[k]? = A.heap[k]?
/-- What a round may turn: the box b, its row. -/
structure Kp7 (b n₀ : Nat) (A B : World) : Prop where
  os : B.os = A.os
  tape : B.tape = A.tape
  output : B.output = A.output
  size : A.heap.size ≤ B.heap.size
  keep : ∀ k, k < A.heap.size → k ≠ b → ¬ rowAt A b k → (k < n₀ ∨ ∃ o : Obj, A.heap[k]? = some o ∧ o.isCells = true) → B.heap[k]? = A.heap[k]?
  row : ∀ k, rowAt B b k → rowAt A b k ∨ (A.heap.size ≤ k ∧ k < B.heap.size)
theorem st7_objs {b n₁ : Nat} (A B : World) (h : St7 b n₁ A B) (k : Nat) (o : Obj) (hk : A.heap[k]? = some o) (hc : o.isCells = false) (_ : o.isWalk = false) : B.heap[k]? = some o :=
  (h.keep k (Array.getElem?_eq_some_iff.1 hk).1 (.inr (.inl (fun o' e => by rw [hk] at e; cases e; exact hc)))).trans hk
theorem St7.of {b n₁ : Nat} {A B : World} {T : Nat → Prop} (h : ChP T A B) (hT : ∀ k, k < A.heap.size → T k → n₁ ≤ k ∧ (∃ o : Obj, A.heap[k]? = some o ∧ o.isCells = true) ∧ ¬ rowAt A b k) : St7 b n₁ A B :=
  ⟨h.os, h.tape, h.output, h.size, fun k hk hor => h.block k hk (fun e => by
    obtain ⟨h1, ⟨o, h2, h3⟩, h4⟩ := hT k hk e
    rcases hor with h5 | h5 | h5
    · omega
    · rw [h5 o h2] at h3; cases h3
    · exact h4 h5)⟩
theorem St7.quiet {b n₁ : Nat} {A B : World} (h : Ch [] A B) : St7 b n₁ A B := .of (T := fun _ => False) (.quiet h) (fun _ _ e => e.elim)
theorem Kp7.refl (b n₀ : Nat) (A : World) : Kp7 b n₀ A A := ⟨rfl, rfl, rfl, Nat.le_refl _, fun _ _ _ _ _ => rfl, fun _ h => .inl h⟩
theorem Kp7.trans {b n₀ : Nat} {A B C : World} (h : Kp7 b n₀ A B) (k : Kp7 b n₀ B C) : Kp7 b n₀ A C := by
  refine ⟨k.os.trans h.os, k.tape.trans h.tape, k.output.trans h.output, Nat.le_trans h.size k.size, fun i hi hb hr hor => ?_, fun i hi => ?_⟩
  · have e := h.keep i hi hb hr hor
    refine (k.keep i (Nat.lt_of_lt_of_le hi h.size) hb (fun hB => ?_) ?_).trans e
    · rcases h.row i hB with h1 | h1
      · exact hr h1
      · omega
    · rcases hor with h1 | ⟨o, h1, h2⟩
      · exact .inl h1
      · exact .inr ⟨o, e.trans h1, h2⟩
  · rcases k.row i hi with h1 | h1
    · rcases h.row i h1 with h2 | h2
      · exact .inl h2
      · exact .inr ⟨h2.1, Nat.lt_of_lt_of_le h2.2 k.size⟩
    · exact .inr ⟨Nat.le_trans h.size h1.1, h1.2⟩
theorem cell_obj {W : World} {b o : Nat} {v : Value} (h : W.cell? ⟨b, o, none⟩ = some v) : ∃ x : Obj, W.heap[b]? = some x ∧ x.isCells = true := by
  unfold World.cell? at h
  simp only [Option.isSome_none, Bool.false_eq_true, if_false] at h
  split at h
  · rename_i e
    exact ⟨_, e, rfl⟩
  · cases h
theorem kp7_b {b n₀ : Nat} (W : World) (l : Nat) (o o' : Obj) (hl : n₀ ≤ l) (h : W.heap[l]? = some o) (hc : o.isCells = false) (_ : o.isWalk = false) (hc' : o'.isCells = false) : Kp7 b n₀ W (W.putObj l o') := by
  have hlt : l < W.heap.size := (Array.getElem?_eq_some_iff.1 h).1
  refine ⟨rfl, rfl, rfl, by simp [World.putObj], fun k hk _ _ hor => World.putObj_heap_other (fun e => ?_), fun k hk => .inl ?_⟩
  · subst e
    rcases hor with h1 | ⟨x, h1, h2⟩
    · omega
    · rw [h] at h1; cases h1; rw [hc] at h2; cases h2
  · obtain ⟨v, h1, h2⟩ := hk
    refine ⟨v, ?_, h2⟩
    by_cases e : b = l
    · subst e
      obtain ⟨x, h3, h4⟩ := cell_obj h1
      rw [World.putObj_heap_same hlt] at h3
      cases h3
      rw [hc'] at h4
      cases h4
    · rw [← h1]
      exact (World.cell?_of_block (w := W) (a := ⟨b, 0, none⟩) (World.putObj_heap_other e)).symm
end Go.Proofs.YtnndofeomakpiaaGreatDoor
namespace Go.Proofs.YtnndofeomakpiaaGreatDoor

theorem cands_nodup (x : Int) (M : Nat → Nat) (k : Nat) : (cands x M k).Nodup := by
  unfold cands
  rw [List.nodup_iff_pairwise_ne, List.pairwise_map]
  exact (List.Pairwise.filter _ (List.nodup_iff_pairwise_ne.1 List.nodup_range)).imp (fun {a b} h e => h (congrArg Prod.fst e))
theorem keep_nodup (x d : Int) (M : Nat → Nat) : (keep x d (cands x M 8)).Nodup := (List.filter_sublist).nodup (cands_nodup x M 8)
/-- Those that are due later than x0. -/
def later (L : List Tm) (x0 : Int) : List Tm := L.filter fun t => decide (x0 < t.sp.due)
theorem later_mem {L : List Tm} {x0 : Int} {t : Tm} : t ∈ later L x0 ↔ t ∈ L ∧ x0 < t.sp.due := by simp [later]
theorem later_later {L : List Tm} {x0 d : Int} (h : x0 ≤ d) : (later L x0).filter (fun t => decide (d < t.sp.due)) = later L d := by
  unfold later
  rw [List.filter_filter]
  apply List.filter_congr
  intro t _
  rw [Bool.eq_iff_iff]
  simp only [Bool.and_eq_true, decide_eq_true_eq]
  omega
theorem later_due {L : List Tm} {x0 d : Int} (h : x0 < d) : (later L x0).filter (fun t => decide (t.sp.due = d)) = L.filter fun t => decide (t.sp.due = d) := by
  unfold later
  rw [List.filter_filter]
  apply List.filter_congr
  intro t _
  rw [Bool.eq_iff_iff]
  simp only [Bool.and_eq_true, decide_eq_true_eq]
  omega
/-- What in tells of the slots that are due at d. -/
theorem sel_due {x : Int} {puts : Nat} {L : List Tm} (h : WI x puts L) {K : List (Nat × Nat)} (hnd : K.Nodup) (hK8 : ∀ p ∈ K, p.1 < 8 ∧ p.2 < 64) {d x0 : Int} (hx : x0 < d)
    (hK : ∀ n s : Nat, (n, s) ∈ K ↔ ∃ t ∈ later L x0, t.sp.lv = n ∧ t.sp.sl = (s : Int) ∧ t.sp.due = d) {zs : List Tm} (hp : zs.Perm ((sel L K).map (·.1))) (hs : zs.Pairwise fun a b => a.put ≤ b.put) : zs = L.filter fun t => decide (t.sp.due = d) := by
  have hLn : L.Nodup := by
    have := h.nd
    rw [List.nodup_iff_pairwise_ne, List.pairwise_map] at this
    exact this.imp (fun {a b} hne e => hne (by rw [e]))
  have hat : L.attach.Nodup := by
    rw [List.nodup_iff_pairwise_ne]
    have : (L.attach.map (·.1)).Nodup := by rw [List.attach_map_subtype_val]; exact hLn
    rw [List.nodup_iff_pairwise_ne, List.pairwise_map] at this
    exact this.imp (fun {a b} hne e => hne (by rw [e]))
  have hsl : ∀ p ∈ K, ∀ t ∈ L, slotP p t = true ↔ t.sp.lv = p.1 ∧ t.sp.sl = (p.2 : Int) := fun p hpK t ht => by
    have h1 := (h.fits t ht).sl
    have h2 := (hK8 p hpK).2
    unfold slotP
    rw [decide_eq_true_eq]
    omega
  have hmem : ∀ t, t ∈ (sel L K).map (·.1) ↔ t ∈ L ∧ t.sp.due = d := fun t => by
    unfold sel
    simp only [List.mem_map, List.mem_flatMap, List.mem_filter, List.mem_attach, true_and]
    constructor
    · rintro ⟨⟨u, hu⟩, ⟨p, hpK, hs1⟩, rfl⟩
      refine ⟨hu, ?_⟩
      show u.sp.due = d
      obtain ⟨h1, h2⟩ := (hsl p hpK u hu).1 hs1
      obtain ⟨v, hv, v1, v2, v3⟩ := (hK p.1 p.2).1 hpK
      have hvL := (later_mem.1 hv).1
      have := ((h.fits u hu).apart (h.fits v hvL) (by omega)).1 (by omega)
      omega
    · rintro ⟨ht, hd⟩
      obtain ⟨s, hs⟩ := Int.eq_ofNat_of_zero_le (h.fits t ht).sl.1
      have hpK : (t.sp.lv, s) ∈ K := (hK _ _).2 ⟨t, later_mem.2 ⟨ht, by omega⟩, rfl, hs, hd⟩
      exact ⟨⟨t, ht⟩, ⟨(t.sp.lv, s), hpK, (hsl _ hpK t ht).2 ⟨rfl, hs⟩⟩, rfl⟩
  have hsn : ((sel L K).map (·.1)).Nodup := by
    rw [List.nodup_iff_pairwise_ne, List.pairwise_map]
    unfold sel
    rw [List.pairwise_flatMap]
    refine ⟨fun p _ => (List.Pairwise.filter _ (List.nodup_iff_pairwise_ne.1 hat)).imp (fun {a b} hne e => hne (Subtype.ext e)), ?_⟩
    refine List.Pairwise.imp_of_mem (fun {p q} hpK hqK hne => ?_) (List.nodup_iff_pairwise_ne.1 hnd)
    intro a ha b hb e
    obtain ⟨a1, a2⟩ := (hsl p hpK a.1 a.2).1 (List.mem_filter.1 ha).2
    obtain ⟨b1, b2⟩ := (hsl q hqK b.1 b.2).1 (List.mem_filter.1 hb).2
    rw [e] at a1 a2
    refine hne (Prod.ext ?_ ?_)
    · omega
    · omega
  have hzn := hp.symm.nodup hsn
  refine sorted_unique (r := fun a b : Tm => a.put < b.put) (fun a b h1 h2 => by omega) ?_ ?_ (h.rise.filter _)
  · refine hp.trans ((List.perm_ext_iff_of_nodup hsn (List.filter_sublist.nodup hLn)).2 fun t => ?_)
    rw [hmem, List.mem_filter, decide_eq_true_eq]
  · refine (hs.and (List.nodup_iff_pairwise_ne.1 hzn)).imp_of_mem (fun {a b} ha hb ⟨h1, h2⟩ => ?_)
    have hl : ∀ t, t ∈ zs → t ∈ L := fun t ht => ((hmem t).1 (hp.mem_iff.1 ht)).1
    have : a.put ≠ b.put := fun e => h2 (nodup_inj h.rise.nodup (hl a ha) (hl b hb) e)
    omega
end Go.Proofs.YtnndofeomakpiaaGreatDoor
namespace Go.Proofs.YtnndofeomakpiaaGreatDoor
open Go.RowKit Go.Maps Go.Sort Go.Shelf

/-- Of what there was the box alone may have turned; its row is new. -/
structure In7 (w0 : World) (b : Nat) (wr : World) : Prop where
  ch : ChP (fun k => k = b) w0 wr
  row : ∀ k, rowAt wr b k → w0.heap.size ≤ k ∧ k < wr.heap.size
/-- A block of dues's own. -/
structure Own7 (w0 : World) (b : Nat) (wr : World) (g : Nat) : Prop where
  lo : w0.heap.size ≤ g
  hi : g < wr.heap.size
  no : ¬ rowAt wr b g
section
variable {w0 wr w' : World} {b g : Nat}
theorem rowAt_same {W W' : World} (h : W'.heap[b]? = W.heap[b]?) (k : Nat) : rowAt W' b k ↔ rowAt W b k := by
  unfold rowAt
  rw [World.cell?_of_block (w := W) (w' := W') (a := ⟨b, 0, none⟩) h]
theorem In7.start (hW : Below w0.heap.size w0 wr) (hb : b < w0.heap.size) (hrow : ∀ k, ¬ rowAt w0 b k) : In7 w0 b wr :=
  ⟨⟨hW.os, hW.tape, hW.output, hW.size, fun k hk _ => hW.block k hk⟩, fun k hk => absurd ((rowAt_same (hW.block b hb) k).1 hk) (hrow k)⟩
theorem In7.step {T : Nat → Prop} (h : In7 w0 b wr) (hc : ChP T wr w') (hb : b < w0.heap.size) (hT : ∀ k, T k → w0.heap.size ≤ k) : In7 w0 b w' := by
  have hbw : b < wr.heap.size := Nat.lt_of_lt_of_le hb h.ch.size
  have hbT : ¬ T b := fun e => by have := hT b e; omega
  exact ⟨h.ch.fresh hc (fun k e => .inr (hT k e)), fun k hk => by
    have := h.row k ((rowAt_same (hc.block b hbw hbT) k).1 hk)
    have := hc.size
    omega⟩
theorem Own7.step {T : Nat → Prop} (h : Own7 w0 b wr g) (hi : In7 w0 b wr) (hc : ChP T wr w') (hb : b < w0.heap.size) (hT : ∀ k, T k → w0.heap.size ≤ k) : Own7 w0 b w' g := by
  have hbw : b < wr.heap.size := Nat.lt_of_lt_of_le hb hi.ch.size
  have hbT : ¬ T b := fun e => by have := hT b e; omega
  exact ⟨h.lo, Nat.lt_of_lt_of_le h.hi hc.size, fun e => h.no ((rowAt_same (hc.block b hbw hbT) g).1 e)⟩
theorem Own7.new {T : Nat → Prop} (hi : In7 w0 b wr) (hc : ChP T wr w') (hb : b < w0.heap.size) (hT : ∀ k, T k → w0.heap.size ≤ k) (h1 : wr.heap.size ≤ g) (h2 : g < w'.heap.size) : Own7 w0 b w' g := by
  have hbw : b < wr.heap.size := Nat.lt_of_lt_of_le hb hi.ch.size
  have hbT : ¬ T b := fun e => by have := hT b e; omega
  exact ⟨Nat.le_trans hi.ch.size h1, h2, fun e => by
    have := (hi.row g ((rowAt_same (hc.block b hbw hbT) g).1 e)).2
    omega⟩
theorem In7.kp (h : In7 w0 b wr) (hk : Kp7 b w0.heap.size wr w') : In7 w0 b w' := by
  refine ⟨⟨hk.os.trans h.ch.os, hk.tape.trans h.ch.tape, hk.output.trans h.ch.output, Nat.le_trans h.ch.size hk.size, fun k hlt hn => ?_⟩, fun k e => ?_⟩
  · refine (hk.keep k (Nat.lt_of_lt_of_le hlt h.ch.size) hn (fun e => ?_) (.inl hlt)).trans (h.ch.block k hlt hn)
    have := (h.row k e).1
    omega
  · rcases hk.row k e with h1 | h1
    · have := h.row k h1
      have := hk.size
      omega
    · have := h.ch.size
      omega
theorem Own7.kp (h : Own7 w0 b wr g) (hb : b < w0.heap.size) (hk : Kp7 b w0.heap.size wr w') (hc : ∃ o : Obj, wr.heap[g]? = some o ∧ o.isCells = true) : Own7 w0 b w' g ∧ w'.heap[g]? = wr.heap[g]? := by
  have hlo := h.lo
  refine ⟨⟨h.lo, Nat.lt_of_lt_of_le h.hi hk.size, fun e => ?_⟩, hk.keep g h.hi (by omega) h.no (.inr hc)⟩
  rcases hk.row g e with h1 | h1
  · exact h.no h1
  · have := h.hi
    omega
theorem In7.wb (h : In7 w0 b wr) {base B : Nat} {S : Nat → Prop} {now : Int} {puts : Nat} {L : List Tm} (hw : WB w0 base B S now puts L) (hbS : ¬ S b) : WB wr base B S now puts L :=
  hw.frame h.ch (fun _ hk e => hbS (e ▸ hk))
theorem In7.tab (h : In7 w0 b wr) (hT : Mk.Tab w0) (hb : b ≠ 0) : Mk.Tab wr := fun j hj => (h.ch.cell (p := ⟨0, j, none⟩) (cell_lt (hT j hj)) (fun e => hb e.symm)).trans (hT j hj)
end

end Go.Proofs.YtnndofeomakpiaaGreatDoor
namespace Go.Proofs.YtnndofeomakpiaaGreatDoor
open Go.RowKit Go.Maps Go.Sort Go.Shelf

attribute [local go_sem] Oper.semAt_some

theorem eight_set {w : World} {X : Nat} {M : Nat → Nat} (h : Eight w X M) (U : Nat → Nat) : Eight (w.setCells X 0 (ml U)) X U := by
  refine ⟨fun n hn => ?_, fun o => by rw [World.frozen?_setCells]; exact h.fr o⟩
  have := World.rangeAt_setCells_same w X 0 (ml U) (fun j hj => ⟨by rw [Nat.zero_add, h.at' j hj]; rfl, h.fr _⟩) n _ (ml_at U hn)
  rwa [Nat.zero_add] at this
set_option maxRecDepth 100000 in
set_option maxHeartbeats 4000000 in
theorem dues1_in (n : Nat) {w0 : World} {base B Bx b : Nat} {S : Nat → Prop} {now : Int} {puts : Nat} {L : List Tm} (h : WB w0 base B S now puts L) (hT : Mk.Tab w0) (hbx : w0.cell? ⟨Bx, 0, none⟩ = some (.pointer (some ⟨B, 0, none⟩)))
    (hb : b < w0.heap.size) (hbS : ¬ S b) (hbB : b ≠ Bx) (hbt : b ≠ 0) (l : Nat) (J Jx : List Tm → World → Prop)
    (hJ : ∀ s A A', J s A → St7 b w0.heap.size A A' → J s A')
    (hY : ∀ pre x W, J pre W → pre.length < L.length → YieldAt Fence.wide (n - 1) Tryz.prog l #[.int .u64 x.sp.due, .int .i64 x.id] W fun e W' => (e = .returned (.bool true) ∧ J (pre ++ [x]) W' ∧ Kp7 b w0.heap.size W W') ∨ (e = .returned (.bool false) ∧ Jx (pre ++ [x]) W'))
    (W : World) (hW : In7 w0 b W) (h0 : J [] W) :
    CallsIn Fence.wide n Tryz.prog 70 #[.func (.yield l) #[] #[], .pointer (some ⟨Bx, 0, none⟩)] W fun e W' => (∃ v, e = .returned v) ∧ ((∃ xs, xs = DL L ∧ J xs W') ∨ (∃ pre, pre <+: DL L ∧ Jx pre W')) := by
  have HW0 := Lib.hid h
  have HT := Lib.hid hT
  have HJ := Lib.hid hJ
  have HY := Lib.hid hY
  have HIn := Lib.hid hW
  have hbw := (hW.ch.cell (p := ⟨Bx, 0, none⟩) (cell_lt hbx) (fun e => hbB e.symm)).trans hbx
  have hwb := hW.wb h hbS
  obtain ⟨M, hMc, hMB⟩ := hwb.wc.masks
  have HMB := Lib.hid hMB
  have m0 := hMc 0 (by decide)
  have m1 := hMc 1 (by decide)
  have m2 := hMc 2 (by decide)
  have m3 := hMc 3 (by decide)
  have m4 := hMc 4 (by decide)
  have m5 := hMc 5 (by decide)
  have m6 := hMc 6 (by decide)
  have m7 := hMc 7 (by decide)
  clear h hT hJ hY hW hwb hMc hMB
  refine callsIn_of_wp Tryz.func70 rfl trivial ?_ rfl
  simp only [Tryz.ntmps70, List.size_toArray, List.length_cons, List.length_nil, Nat.reduceAdd, Nat.reduceSub, Array.replicate_succ, Array.replicate_zero, List.push_toArray, List.append_toArray, List.nil_append, List.cons_append]
  rw [wpIn_wide]
  refine wp_scope_straight ?_
  rw [← wpIn_wide (n := n)]
  gi_wp2
  have hE0 := Eight.new W M 101
  have hal : Ch [] W (W.alloc (.cells #[.int .u64 ((M 0 : Nat) : Int), .int .u64 ((M 1 : Nat) : Int), .int .u64 ((M 2 : Nat) : Int), .int .u64 ((M 3 : Nat) : Int), .int .u64 ((M 4 : Nat) : Int), .int .u64 ((M 5 : Nat) : Int), .int .u64 ((M 6 : Nat) : Int), .int .u64 ((M 7 : Nat) : Int)] 101)) := (Ch.refl [] W).alloc _
  have HE0 := Lib.hid hE0
  have HIn0 := Lib.hid (HIn.out.step (.quiet hal) hb (T := fun _ => False) (fun _ e => e.elim))
  have HOwn0 := Lib.hid (Own7.new HIn.out (.quiet hal) hb (T := fun _ => False) (fun _ e => e.elim) (Nat.le_refl _) (by simp))
  have HJ0 := Lib.hid (HJ.out _ _ _ h0 (.quiet hal))
  clear hE0 hal m0 m1 m2 m3 m4 m5 m6 m7 h0
  generalize W.alloc (.cells #[.int .u64 ((M 0 : Nat) : Int), .int .u64 ((M 1 : Nat) : Int), .int .u64 ((M 2 : Nat) : Int), .int .u64 ((M 3 : Nat) : Int), .int .u64 ((M 4 : Nat) : Int), .int .u64 ((M 5 : Nat) : Int), .int .u64 ((M 6 : Nat) : Int), .int .u64 ((M 7 : Nat) : Int)] 101) = W1 at *
  refine wpIn_label ?_
  gi_wp2
  have HL0 := Lib.hid (show later L 0 = L from List.filter_eq_self.2 (fun t ht => by have := (HW0.out.wi.fits t ht).ahead; have := HW0.out.wi.wd.lo; simp; omega))
  gi_loopw [4] (fun s4 wr => ∃ (pre : List Tm) (Mx : Nat → Nat), DL L = pre ++ DL (later L (intOf s4)) ∧ MB Mx (later L (intOf s4)) ∧ Eight wr W.heap.size Mx ∧ In7 w0 b wr ∧ Own7 w0 b wr W.heap.size ∧ J pre wr) (fun s4 _ => (later L (intOf s4)).length)
  case atStart => exact ⟨[], M, by show _ = [] ++ DL (later L 0); rw [HL0.out]; rfl, by show MB M (later L 0); rw [HL0.out]; exact HMB.out, HE0.out, HIn0.out, HOwn0.out, HJ0.out⟩
  case round =>
    obtain ⟨pre, Mx, hD, hM, hE, hI, hO, hJp⟩ := hrel
    obtain ⟨x0, hx0⟩ : ∃ x0, x0 = intOf u4 := ⟨_, rfl⟩
    rw [← hx0] at hD hM
    have HX00 := Lib.hid hx0
    clear hx0
    have hwb := hI.wb HW0.out hbS
    have HWb := Lib.hid hwb
    have HD := Lib.hid hD
    have HM := Lib.hid hM
    have HE := Lib.hid hE
    have HI := Lib.hid hI
    have HO := Lib.hid hO
    have HJp := Lib.hid hJp
    have c0 := hwb.c0
    have cb := (hI.ch.cell (p := ⟨Bx, 0, none⟩) (cell_lt hbx) (fun e => hbB e.symm)).trans hbx
    obtain ⟨X1, hX1⟩ : ∃ X1, X1 = W.heap.size := ⟨_, rfl⟩
    rw [← hX1] at HE HO hE ⊢
    have m0 := hE.at' 0 (by decide)
    have m1 := hE.at' 1 (by decide)
    have m2 := hE.at' 2 (by decide)
    have m3 := hE.at' 3 (by decide)
    have m4 := hE.at' 4 (by decide)
    have m5 := hE.at' 5 (by decide)
    have m6 := hE.at' 6 (by decide)
    have m7 := hE.at' 7 (by decide)
    have HF := Lib.hid (first_any (M := Mx) (fun n hn => (hM n hn).1) HW0.out.wi.wd (w := wr.drew) (hI.tab HT.out hbt))
    unfold mv at HF
    have HX1 := Lib.hid hX1
    clear hD hM hI hO hJp hwb hE hX1
    gi_wp2
    rw [wpIn_wide]
    go_region_held3 (fun w' => w'.cell? ⟨X1, 0, none⟩ = some (.int .u64 ((Mx 0 : Nat) : Int)) ∧ w'.cell? ⟨X1, 1, none⟩ = some (.int .u64 ((Mx 1 : Nat) : Int)) ∧ w'.cell? ⟨X1, 2, none⟩ = some (.int .u64 ((Mx 2 : Nat) : Int)) ∧ w'.cell? ⟨X1, 3, none⟩ = some (.int .u64 ((Mx 3 : Nat) : Int)) ∧ w'.cell? ⟨X1, 4, none⟩ = some (.int .u64 ((Mx 4 : Nat) : Int)) ∧ w'.cell? ⟨X1, 5, none⟩ = some (.int .u64 ((Mx 5 : Nat) : Int)) ∧ w'.cell? ⟨X1, 6, none⟩ = some (.int .u64 ((Mx 6 : Nat) : Int)) ∧ w'.cell? ⟨X1, 7, none⟩ = some (.int .u64 ((Mx 7 : Nat) : Int)) ∧ w'.cell? ⟨Bx, 0, none⟩ = some (.pointer (some ⟨B, 0, none⟩)) ∧ w'.cell? ⟨B, 0, none⟩ = some (.int .u64 now)) (go_keep) ((go_at_call 71; refine HF.out.mono ?_; rintro e w2 ⟨v, d, rfl, hrow, hc2, hspec⟩; have HRow := Lib.hid hrow; have HC2 := Lib.hid hc2; have HSp := Lib.hid hspec; have kk := fun (B' o : Nat) (v : Value) (hv : wr.cell? ⟨B', o, none⟩ = some v) => (hc2.cell (p := ⟨B', o, none⟩) (cell_lt hv) (by simp)).trans hv; have k0 := kk _ _ _ m0; have k1 := kk _ _ _ m1; have k2 := kk _ _ _ m2; have k3 := kk _ _ _ m3; have k4 := kk _ _ _ m4; have k5 := kk _ _ _ m5; have k6 := kk _ _ _ m6; have k7 := kk _ _ _ m7; have k8 := kk _ _ _ cb; have k9 := kk _ _ _ c0; clear hrow hc2 hspec kk))
    have HCq := Lib.hid (((Ch.refl [] wr).drew).trans HC2.out)
    have HIn2 := Lib.hid (HI.out.step (.quiet HCq.out) hb (T := fun _ => False) (fun _ e => e.elim))
    have HOw2 := Lib.hid (HO.out.step HI.out (.quiet HCq.out) hb (T := fun _ => False) (fun _ e => e.elim))
    have HJ2 := Lib.hid (HJ.out _ _ _ HJp.out (St7.quiet HCq.out))
    have HE2 := Lib.hid (HE.out.quiet HCq.out)
    have HF2 := Lib.hid (fun t (ht : t ∈ later L x0) => HW0.out.wi.fits t (later_mem.1 ht).1)
    clear k0 k1 k2 k3 k4 k5 k6 k7 k9 m0 m1 m2 m3 m4 m5 m6 m7 c0 cb
    obtain ⟨K, hKq⟩ : ∃ K, K = keep now d (cands now Mx 8) := ⟨_, rfl⟩
    have HKq := Lib.hid hKq
    rw [← hKq] at HRow
    clear hKq
    obtain ⟨m, hm⟩ : ∃ m, m = K.length := ⟨_, rfl⟩
    obtain ⟨a, cp, hv⟩ := own_form HRow.out
    rw [← hm] at hv
    have HMl := Lib.hid hm
    clear hm
    subst hv
    by_cases hc : cands now Mx 8 = []
    · have hR : later L x0 = [] := by
        rw [List.eq_nil_iff_forall_not_mem]
        intro t ht
        obtain ⟨h1, _⟩ := cand_of HM.out HF2.out ht
        have : (t.sp.lv, candV now Mx t.sp.lv) ∈ cands now Mx 8 := cands_mem.2 ⟨(HF2.out t ht).lv, h1, rfl⟩
        rw [hc] at this
        cases this
      obtain rfl : m = 0 := by rw [HMl.out, HKq.out, hc]; rfl
      have HDp := Lib.hid (show DL L = pre by rw [HD.out, hR, DL_nil, List.append_nil])
      clear hR hc
      gi_wp2
      try rw [Exit.noGoto_normal]
      go_end0
      exact ⟨⟨_, rfl⟩, .inl ⟨pre, HDp.out.symm, HJ2.out⟩⟩
    · obtain ⟨hd1, hd2⟩ := HSp.out.resolve_left (fun e => hc e.1)
      obtain ⟨hlo, hex, hKs⟩ := pick_spec HM.out HF2.out hd1 hd2
      rw [← HKq.out] at hKs
      have HLo := Lib.hid hlo
      have HEx := Lib.hid hex
      have HKs := Lib.hid hKs
      obtain ⟨t0, ht0, htd⟩ := hex
      have HX0 := Lib.hid (show x0 < d by have := (later_mem.1 ht0).2; omega)
      have HK8 := Lib.hid (show ∀ p ∈ K, p.1 < 8 ∧ p.2 < 64 from fun p hp => by
        rw [HKq.out] at hp
        obtain ⟨h1, h2, h3⟩ := cands_mem.1 (List.mem_filter.1 hp).1
        exact ⟨h1, by rw [h3]; exact cand_lt now Mx p.1 h2⟩)
      have HKl := Lib.hid (show K.length ≤ 8 by rw [HKq.out]; exact Nat.le_trans (List.length_filter_le _ _) (cands_le now Mx 8))
      have HKn := Lib.hid (show K.Nodup by rw [HKq.out]; exact keep_nodup _ _ _)
      have hm0 : 0 < m := by
        obtain ⟨s, hs⟩ := Int.eq_ofNat_of_zero_le (HF2.out t0 ht0).sl.1
        have hmem := (hKs t0.sp.lv s).2 ⟨t0, ht0, rfl, hs, htd⟩
        rw [HMl.out]
        exact List.length_pos_of_mem hmem
      have hml : m ≤ 8 := by rw [HMl.out]; exact HKl.out
      have hmz : ¬ (m : Int) = 0 := by omega
      obtain ⟨Z, hZ⟩ : ∃ Z, Z = L.filter fun t => decide (t.sp.due = d) := ⟨_, rfl⟩
      have HZ := Lib.hid hZ
      have hrow := HRow.out
      rw [HMl.out] at hrow
      have HWb2 := Lib.hid (HIn2.out.wb HW0.out hbS)
      have HIA := Lib.hid (in_any (cap := cp) HWb2.out (spots_at hrow) HK8.out HKl.out)
      rw [← HMl.out] at HIA
      have HSel := Lib.hid (fun (zs : List Tm) (h1 : zs.Perm ((sel L K).map (·.1))) h2 => (sel_due HW0.out.wi HKn.out HK8.out HX0.out HKs.out h1 h2).trans hZ.symm)
      clear hlo hKs ht0 htd hZ hrow hd1 hd2 hc
      obtain ⟨nz, hnz⟩ : ∃ nz, nz = Z.length := ⟨_, rfl⟩
      have HNz := Lib.hid hnz
      have hzl : nz ≤ 256 := by rw [hnz, HZ.out]; exact Nat.le_trans (List.length_filter_le _ _) HW0.out.wi.len
      have hz0 : 0 < nz := by
        obtain ⟨t, ht, e⟩ := HEx.out
        rw [hnz, HZ.out]
        exact List.length_pos_of_mem (List.mem_filter.2 ⟨(later_mem.1 ht).1, decide_eq_true e⟩)
      have hw : ∀ f, Fence.wide.fn f := fun _ => trivial
      have hd : Fence.wide.depth = none := rfl
      clear hnz
      gi_wp2
      with_reducible refine (callsIn_wide.2 HIA.out).mono ?_
      rintro e w3 ⟨v3, zs, rfl, hp, hpw, hrow3, hc3⟩
      have ezs := HSel.out zs hp hpw
      rw [ezs, ← HNz.out] at hrow3
      obtain ⟨a3, cp3, rfl⟩ := own_form hrow3
      have HR3 := Lib.hid hrow3
      have HC3 := Lib.hid hc3
      clear hp hpw hrow3 hc3 ezs zs
      go_frame
      gi_wp2
      -- the rows: the numbers in g3, the spots in g2
      obtain ⟨g3, ha3, hlt3⟩ : ∃ g3, a3 = some ⟨g3, 0, none⟩ ∧ w2.heap.size ≤ g3 ∧ g3 < w3.heap.size := by
        rcases HR3.out.2 with ⟨_, e⟩ | ⟨g, cap', cur, e, hg1, hg2, _⟩
        · omega
        · cases e
          exact ⟨g, rfl, hg1, (Array.getElem?_eq_some_iff.1 hg2).1⟩
      subst ha3
      obtain ⟨g2, ha2, hlt2⟩ : ∃ g2, a = some ⟨g2, 0, none⟩ ∧ wr.heap.size ≤ g2 ∧ g2 < w2.heap.size := by
        rcases HRow.out.2 with ⟨e, _⟩ | ⟨g, cap', cur, e, hg1, hg2, _⟩
        · simp only [Value.slice.injEq] at e; omega
        · simp only [Value.slice.injEq] at e
          exact ⟨g, e.1, hg1, (Array.getElem?_eq_some_iff.1 hg2).1⟩
      subst ha2
      have HIn3 := Lib.hid (HIn2.out.step (.quiet HC3.out) hb (T := fun _ => False) (fun _ e => e.elim))
      have HOw3 := Lib.hid (HOw2.out.step HIn2.out (.quiet HC3.out) hb (T := fun _ => False) (fun _ e => e.elim))
      have HJ3 := Lib.hid (HJ.out _ _ _ HJ2.out (St7.quiet HC3.out))
      have HE3 := Lib.hid (HE2.out.quiet HC3.out)
      have HG3 := Lib.hid (Own7.new HIn2.out (.quiet HC3.out) hb (T := fun _ => False) (fun _ e => e.elim) hlt3.1 hlt3.2)
      have HG2 := Lib.hid ((Own7.new HI.out (.quiet HCq.out) hb (T := fun _ => False) (fun _ e => e.elim) hlt2.1 hlt2.2).step HIn2.out (.quiet HC3.out) hb (T := fun _ => False) (fun _ e => e.elim))
      have HId := Lib.hid (fun j (hj : j < nz) => show w3.cell? ⟨g3, j, none⟩ = some (.int .i64 ((Z[j]?.getD ⟨0, ⟨0, 0, 0, 0⟩, 0⟩).id)) from by
        have h1 := HR3.out.cellAt j (by omega)
        rw [h1, List.getElem?_map, List.getElem?_eq_getElem (by rw [← HNz.out]; exact hj)]
        rfl)
      have HSt := Lib.hid (St7.quiet (b := b) (n₁ := w0.heap.size) HC3.out)
      have HDz := Lib.hid (show DL L = pre ++ (Z ++ DL (later L d)) by
        rw [HD.out, DL_step (L := later L x0) (HW0.out.wi.rise.filter _) HLo.out, later_due HX0.out, later_later (by have := HX0.out; omega), HZ.out])
      have HS2 := Lib.hid (show ∃ o : Obj, w3.heap[g2]? = some o ∧ o.isCells = true from by
        obtain ⟨v, hv, _⟩ := encS_get (K[0]?.getD (0, 0)) (show 0 < 4 by decide)
        have h1 := HRow.out
        rw [HMl.out] at h1
        obtain ⟨hrw, _⟩ := RowF.of h1
        have := (hrw.cell (show 0 < K.length by rw [← HMl.out]; exact hm0) 0 (by decide) hv).1
        exact cell_obj ((HC3.out.cell (cell_lt this) (by simp)).trans this))
      clear HR3 hlt3 hlt2 k8
      gi_loopw [28] (fun i wv => ∃ j : Nat, j ≤ nz ∧ i = .int .i64 (j : Int) ∧ J (pre ++ Z.take j) wv ∧ In7 w0 b wv ∧ Own7 w0 b wv X1 ∧ Own7 w0 b wv g3 ∧ Own7 w0 b wv g2 ∧ wv.heap[X1]? = w3.heap[X1]? ∧ wv.heap[g3]? = w3.heap[g3]? ∧ wv.heap[g2]? = w3.heap[g2]?) (fun i _ => nz - (intOf i).toNat)
      case atStart => exact ⟨0, Nat.zero_le _, rfl, by simpa using HJ3.out, HIn3.out, HOw3.out, HG3.out, HG2.out, rfl, rfl, rfl⟩
      case round =>
        obtain ⟨j, hj, rfl, hJj, hIj, hO1, hO3, hO2, hs1, hs3, hs2⟩ := hrel
        have HJj := Lib.hid hJj
        have HIj := Lib.hid hIj
        have HO1 := Lib.hid hO1
        have HO3 := Lib.hid hO3
        have HO2 := Lib.hid hO2
        have Hs1 := Lib.hid hs1
        have Hs3 := Lib.hid hs3
        have Hs2 := Lib.hid hs2
        clear hJj hIj hO1 hO3 hO2
        by_cases hlt : j < nz
        · obtain ⟨x, hx⟩ : ∃ x, x = Z[j]?.getD ⟨0, ⟨0, 0, 0, 0⟩, 0⟩ := ⟨_, rfl⟩
          have hjz : j < Z.length := by rw [← HNz.out]; exact hlt
          have hxz : x ∈ Z := by rw [hx, List.getElem?_eq_getElem hjz]; exact List.getElem_mem _
          have HTk := Lib.hid (show Z.take (j + 1) = Z.take j ++ [x] by rw [List.take_add_one, hx]; simp [hjz])
          have hdue : x.sp.due = d := by rw [HZ.out] at hxz; exact of_decide_eq_true (List.mem_filter.1 hxz).2
          have hid : wr.cell? ⟨g3, j, none⟩ = some (.int .i64 x.id) := by
            rw [World.cell?_of_block (w := w3) (a := ⟨g3, j, none⟩) hs3, hx]
            exact HId.out j hlt
          have HC3' := Lib.hid (cell_obj hid)
          have HC1' := Lib.hid (cell_obj ((World.cell?_of_block (w := w3) (w' := wr) (a := ⟨X1, 0, none⟩) hs1).trans (HE3.out.at' 0 (by decide))))
          have hlen : (pre ++ Z.take j).length < L.length := by
            have h1 := congrArg List.length HDz.out
            rw [DL_length] at h1
            simp only [List.length_append, List.length_take] at h1 ⊢
            omega
          obtain ⟨fn, tmps, assign, body, hy, hR⟩ := HY.out (pre ++ Z.take j) x wr HJj.out hlen
          rw [hdue] at hy
          have HX := Lib.hid hx
          have hj0 : (0 : Int) ≤ (j : Int) := by omega
          have hj1 : (j : Int) < (nz : Int) := by omega
          generalize x.id = idx at hid hy
          clear hx hxz hdue hlen hs1 hs2 hs3 hjz
          gi_wp2
          refine hR.mono ?_
          rintro e W3 (⟨rfl, hJ3, hk3⟩ | ⟨rfl, hJx3⟩)
          · have HJ3' := Lib.hid hJ3
            have HK3 := Lib.hid hk3
            clear hJ3 hk3 hy hR
            go_frame
            gi_wp2
            go_roundw
            case rel =>
              obtain ⟨a1, b1⟩ := HO1.out.kp hb HK3.out HC1'.out
              obtain ⟨a3, b3⟩ := HO3.out.kp hb HK3.out HC3'.out
              obtain ⟨a2, b2⟩ := HO2.out.kp hb HK3.out (by rw [Hs2.out]; exact HS2.out)
              exact ⟨j + 1, by omega, by go_num, by rw [HTk.out, ← List.append_assoc]; exact HJ3'.out, HIj.out.kp HK3.out, a1, a3, a2, b1.trans Hs1.out, b3.trans Hs3.out, b2.trans Hs2.out⟩
            case measure => simp [intOf]; omega
          · have HJx := Lib.hid hJx3
            clear hJx3 hy hR
            go_frame
            gi_wp2
            try rw [Exit.noGoto_normal]
            go_end0
            refine ⟨⟨_, rfl⟩, .inr ⟨pre ++ Z.take j ++ [x], ?_, HJx.out⟩⟩
            rw [HDz.out, List.append_assoc, ← HTk.out]
            exact List.prefix_append_right_inj _ |>.2 ((List.take_prefix _ _).trans (List.prefix_append _ _))
        · obtain rfl : j = nz := by omega
          have hTk : Z.take j = Z := by rw [HNz.out]; exact List.take_length
          rw [hTk] at HJj
          have hEj : Eight wr X1 Mx := ⟨fun n hn => (World.cell?_of_block (w := w3) (w' := wr) (a := ⟨X1, n, none⟩) hs1).trans (HE3.out.at' n hn), fun n => (World.frozen?_of_block (w := w3) (w' := wr) (a := ⟨X1, n, none⟩) hs1).trans (HE3.out.fr n)⟩
          have HEj := Lib.hid hEj
          have hSp : SpotsAt wr (some ⟨g2, 0, none⟩) m (zK K) := by
            have h1 := HRow.out
            rw [HMl.out] at h1
            obtain ⟨b', off, e, hcell⟩ := (spots_at h1).at'.resolve_left (by rw [← HMl.out]; omega)
            cases e
            refine ⟨.inr ⟨g2, 0, rfl, fun i hi => ?_⟩⟩
            obtain ⟨p0, p1, p2, p3⟩ := hcell i (by rw [← HMl.out]; exact hi)
            have hb2 : ∀ o v, w2.cell? ⟨g2, o, none⟩ = some v → wr.cell? ⟨g2, o, none⟩ = some v := fun o v hv =>
              (World.cell?_of_block (w := w3) (w' := wr) (a := ⟨g2, o, none⟩) hs2).trans ((HC3.out.cell (p := ⟨g2, o, none⟩) (cell_lt hv) (by simp)).trans hv)
            exact ⟨hb2 _ _ p0, hb2 _ _ p1, hb2 _ _ p2, hb2 _ _ p3⟩
          have hz8 : ∀ i, i < m → (0 ≤ (zK K i).1 ∧ (zK K i).1 < 8) ∧ 0 ≤ (zK K i).2.1 ∧ (zK K i).2.1 < 64 := fun i hi => by
            have hiK : i < K.length := by rw [← HMl.out]; exact hi
            have := HK8.out (K[i]?.getD (0, 0)) (by rw [List.getElem?_eq_getElem hiK]; exact List.getElem_mem _)
            unfold zK
            simp only []
            omega
          have HWt := Lib.hid (without_spots (M := Mx) (fun n hn => (HM.out n hn).1) (cap := cp) hSp (by omega) (fun i hi => (hz8 i hi).1))
          obtain ⟨U, hU⟩ : ∃ U, U = wtM Mx (zK K) m := ⟨_, rfl⟩
          rw [← hU] at HWt
          have HMU := Lib.hid (show MB U (later L d) by
            rw [← later_later (L := L) (x0 := x0) (d := d) (by have := HX0.out; omega), hU]
            refine MB.rest HM.out HF2.out HLo.out HKs.out (fun n hn => ⟨wtM_lt (fun n hn => (HM.out n hn).1) _ _ n hn, fun i hi => ?_⟩)
            rw [wtM_bit (len := m) hz8 m (Nat.le_refl _) n hn i hi]
            constructor
            · rintro ⟨h1, h2⟩
              refine ⟨h1, fun hin => ?_⟩
              obtain ⟨q, hq, e⟩ := List.mem_iff_getElem.1 hin
              refine h2 q (by rw [HMl.out]; exact hq) ?_
              unfold zK
              rw [List.getElem?_eq_getElem hq, e]
              exact ⟨rfl, rfl⟩
            · rintro ⟨h1, h2⟩
              refine ⟨h1, fun q hq he => h2 ?_⟩
              have hqK : q < K.length := by rw [← HMl.out]; exact hq
              unfold zK at he
              rw [List.getElem?_eq_getElem hqK] at he
              have : K[q] = (n, i) := Prod.ext (by have := he.1; simp only [Option.getD_some] at this; omega) (by have := he.2; simp only [Option.getD_some] at this; omega)
              rw [← this]
              exact List.getElem_mem _)
          unfold mv at HWt
          have m0 := hEj.at' 0 (by decide)
          have m1 := hEj.at' 1 (by decide)
          have m2 := hEj.at' 2 (by decide)
          have m3 := hEj.at' 3 (by decide)
          have m4 := hEj.at' 4 (by decide)
          have m5 := hEj.at' 5 (by decide)
          have m6 := hEj.at' 6 (by decide)
          have m7 := hEj.at' 7 (by decide)
          clear hs1 hs2 hs3 hTk hSp hz8 hU hEj
          gi_wp2
          with_reducible refine (callsIn_wide.2 HWt.out).mono ?_
          rintro e w5 ⟨rfl, hc5⟩
          have HC5 := Lib.hid hc5
          have hE5 := HEj.out.quiet hc5
          have HE5 := Lib.hid hE5
          have f0 := hE5.fr 0
          have f1 := hE5.fr 1
          have f2 := hE5.fr 2
          have f3 := hE5.fr 3
          have f4 := hE5.fr 4
          have f5 := hE5.fr 5
          have f6 := hE5.fr 6
          have f7 := hE5.fr 7
          have m0 := hE5.at' 0 (by decide)
          have m1 := hE5.at' 1 (by decide)
          have m2 := hE5.at' 2 (by decide)
          have m3 := hE5.at' 3 (by decide)
          have m4 := hE5.at' 4 (by decide)
          have m5 := hE5.at' 5 (by decide)
          have m6 := hE5.at' 6 (by decide)
          have m7 := hE5.at' 7 (by decide)
          clear hc5 hE5
          go_frame
          gi_wp2
          go_roundw
          case rel =>
            have hcs := setCells_chP X1 (ml U) 0 w5
            have hI5 := HIj.out.step (.quiet HC5.out) hb (T := fun _ => False) (fun _ e => e.elim)
            have hO5 := HO1.out.step HIj.out (.quiet HC5.out) hb (T := fun _ => False) (fun _ e => e.elim)
            refine ⟨pre ++ Z, U, ?_, HMU.out, eight_set HE5.out U, hI5.step hcs hb (fun k e => e ▸ hO5.lo), hO5.step hI5 hcs hb (fun k e => e ▸ hO5.lo), ?_⟩
            · rw [List.append_assoc]
              exact HDz.out
            · exact HJ.out _ _ _ (HJ.out _ _ _ HJj.out (St7.quiet HC5.out)) (St7.of hcs (fun k _ e => by subst e; exact ⟨hO5.lo, cell_obj (HE5.out.at' 0 (by decide)), hO5.no⟩))
          case measure =>
            have key : (later L d).length < (later L x0).length := by
              obtain ⟨t, ht, htd⟩ := HEx.out
              rw [← later_later (L := L) (x0 := x0) (d := d) (by have := HX0.out; omega)]
              exact List.length_filter_lt_length_iff_exists.2 ⟨t, ht, by simp [htd]⟩
            rw [HX00.out] at key
            exact key
end Go.Proofs.YtnndofeomakpiaaGreatDoor
namespace Go.Proofs.YtnndofeomakpiaaGreatDoor
open Go.RowKit Go.Maps Go.Sort Go.Shelf

theorem wdues_any (B : Nat) (w : World) : Calls Tryz.prog 55 #[.pointer (some ⟨B, 0, none⟩)] w fun e w' => e = .returned (.func (.func 70) #[] #[.pointer (some ⟨w.heap.size, 0, none⟩)]) ∧ w' = w.alloc (.cells #[.pointer (some ⟨B, 0, none⟩)] 71) := by
  go_enter Tryz.func55, Tryz.ntmps55
  go_wp2_with fail
  go_ret
  exact ⟨rfl, rfl⟩
/-- A timer as it is yielded. -/
def encT (t : Tm) : Array Value := #[.int .u64 t.sp.due, .int .i64 t.id]
theorem dues_seq (n : Nat) {w : World} {base B Bx b : Nat} {S : Nat → Prop} {now : Int} {puts : Nat} {L : List Tm} (h : WB w base B S now puts L) (hT : Mk.Tab w) (hbx : w.cell? ⟨Bx, 0, none⟩ = some (.pointer (some ⟨B, 0, none⟩)))
    (hb : b < w.heap.size) (hbS : ¬ S b) (hbB : b ≠ Bx) (hbt : b ≠ 0) (hrow : ∀ k, ¬ rowAt w b k) :
    SeqW Fence.wide n Tryz.prog 70 #[.pointer (some ⟨Bx, 0, none⟩)] encT (St7 b w.heap.size) (Kp7 b w.heap.size) (fun xs => xs = DL L) (fun pre => pre <+: DL L) L.length w := fun l J Jx W hW hJ hY h0 =>
  dues1_in n h hT hbx hb hbS hbB hbt l J Jx hJ hY W (.start hW hb hrow) h0
end Go.Proofs.YtnndofeomakpiaaGreatDoor

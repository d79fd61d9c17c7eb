/-
  Next.
  To, plain: who comes out, who is left; append in a round, and where the new row lies.
  Plain: the timers of a wheel into which numbers were put one behind the other; who comes out step by step.
  To.
  A wheel of a law's own: each call of the laws. A nil wheel.
  The chapter's examples.
  What the cards share: the table of math/bits as the rows list it, a world for the witnesses, what opens an argument.
-/
import Derived.Test.YtnndofeomakpiaaGreatDoorMgH
import Derived.RangeFuncLeaves
import Derived.RangeFuncBox
import Derived.Maps.OwnIn
import Derived.Test.YtnndofeomakpiaaGreatDoorCards
import Derived.Test.YtnndofeomakpiaaGreatDoorTie
import Derived.Test.YtnndofeomakpiaaGreatDoorMgA
import Derived.WalkKit
import Derived.ProofKit
import Derived.OpenShut
import Derived.Deep.DeepHandedRow
import Derived.Lib.LaidTab
namespace Go.Proofs.YtnndofeomakpiaaGreatDoor
open Go.RowKit Go.Maps Go.Sort Go.Shelf

attribute [local go_sem] Oper.semAt_some

def nextD (l : List Tm) : Int := match l with | [] => 0 | t :: _ => t.sp.due
def nextO (l : List Tm) : Bool := match l with | [] => false | _ :: _ => true
theorem St7.cellOf {b n1 : Nat} {A B : World} (h : St7 b n1 A B) {p : Addr} (hp : p.block < A.heap.size) (hn : p.block < n1) : B.cell? p = A.cell? p := World.cell?_of_block (w := A) (h.keep p.block hp (.inl hn))
theorem St7.frozenOf {b n1 : Nat} {A B : World} (h : St7 b n1 A B) {p : Addr} (hp : p.block < A.heap.size) (hn : p.block < n1) : B.frozen? p = A.frozen? p := World.frozen?_of_block (w := A) (h.keep p.block hp (.inl hn))
theorem St7.belowOf {b n1 B : Nat} {A A' : World} (h : St7 b n1 A A') (hB : B ≤ n1) (hA : B ≤ A.heap.size) : Below B A A' := ⟨h.os, h.tape, h.output, h.size, fun k hk => h.keep k (Nat.lt_of_lt_of_le hk hA) (.inl (Nat.lt_of_lt_of_le hk hB))⟩
theorem below_putObj {n0 : Nat} {a W : World} (h : Below n0 a W) {D : Nat} (hD : n0 ≤ D) (o : Obj) : Below n0 a (W.putObj D o) :=
  h.trans ⟨rfl, rfl, rfl, by simp [World.putObj], fun k hk => World.putObj_heap_other (by omega)⟩
/-- A box of one cell that may be written. -/
def BoxV (W : World) (b : Nat) (v : Value) : Prop := W.cell? ⟨b, 0, none⟩ = some v ∧ W.frozen? ⟨b, 0, none⟩ = false
theorem BoxV.lt {W : World} {b : Nat} {v : Value} (h : BoxV W b v) : b < W.heap.size := cell_lt h.1
theorem BoxV.new (W : World) (v : Value) (t : TypeId) : BoxV (W.alloc (.cells #[v] t)) W.heap.size v := cell_new W v t
theorem BoxV.ch {W W' : World} {b : Nat} {v : Value} {S : List Nat} (h : BoxV W b v) (hc : Ch S W W') (hb : b ∉ S) : BoxV W' b v := ⟨(hc.cell (p := ⟨b, 0, none⟩) h.lt hb).trans h.1, (hc.frozen (p := ⟨b, 0, none⟩) h.lt hb).trans h.2⟩
theorem BoxV.al {W : World} {b : Nat} {v : Value} (h : BoxV W b v) (o : Obj) : BoxV (W.alloc o) b v := h.ch ((Ch.refl [] W).alloc o) (by simp)
theorem BoxV.st {W W' : World} {b k n1 : Nat} {v : Value} (h : BoxV W b v) (hs : St7 k n1 W W') (hn : b < n1) : BoxV W' b v := ⟨(hs.cellOf (p := ⟨b, 0, none⟩) h.lt hn).trans h.1, (hs.frozenOf (p := ⟨b, 0, none⟩) h.lt hn).trans h.2⟩
theorem BoxV.same {W : World} {b : Nat} {v : Value} (h : BoxV W b v) (u : Value) : BoxV (W.setCell ⟨b, 0, none⟩ u) b u := ⟨setCell_same h.1, by simpa using h.2⟩
theorem BoxV.other {W : World} {b k : Nat} {v : Value} (h : BoxV W b v) (hne : k ≠ b) (u : Value) : BoxV (W.setCell ⟨k, 0, none⟩ u) b v := ⟨setCell_other h.1 (addr_ne_block hne), by simpa using h.2⟩
theorem BoxV.put {W : World} {b D : Nat} {v : Value} (h : BoxV W b v) {o : Obj} (hD : W.heap[D]? = some o) (ho : o.isCells = false) (o' : Obj) : BoxV (W.putObj D o') b v :=
  ⟨cell_kept h.1 (grownBy_putObj' _ D o') (fun r e => by cases e; exact ⟨_, hD, ho⟩), (frozen_kept h.1 (grownBy_putObj' _ D o') (fun r e => by cases e; exact ⟨_, hD, ho⟩)).trans h.2⟩
theorem boxV_own {β : Type} (b : Nat) (f : β → Value) : Own (fun (s : β) W => BoxV W b (f s)) := fun _ _ _ _ hs hg hr => ⟨cell_kept hs.1 hg hr, (frozen_kept hs.1 hg hr).trans hs.2⟩
set_option maxRecDepth 100000 in
set_option maxHeartbeats 2000000 in
theorem wnext_any {w : World} {base B : Nat} {S : Nat → Prop} {now : Int} {puts : Nat} {L : List Tm} (h : WB w base B S now puts L) (hT : Mk.Tab w) :
    Calls Tryz.prog 45 #[.pointer (some ⟨B, 0, none⟩)] w fun e w' => e = .returned (.tuple #[.int .u64 (nextD (DL L)), .bool (nextO (DL L))]) ∧ Ch [] w w' := by
  refine (callsIn_wide (n := 6)).1 ?_
  have HW := Lib.hid h
  have HT := Lib.hid hT
  have hB := h.hi B h.own
  have htab : 0 < w.heap.size := cell_lt (hT 0 (by decide))
  have hw : ∀ f, Fence.wide.fn f := fun _ => trivial
  have hd : Fence.wide.depth = none := rfl
  clear h hT
  refine callsIn_of_wp_marks Tryz.func45 rfl trivial ?_ rfl
  simp only [Tryz.ntmps45, List.size_toArray, List.length_cons, List.length_nil, Nat.reduceAdd, Nat.reduceSub, Array.replicate_succ, Array.replicate_zero, List.push_toArray, List.append_toArray, List.nil_append, List.cons_append]
  gi_wp2
  with_reducible refine (callsIn_wide.2 (wdues_any B _)).mono ?_
  rintro e w1 ⟨rfl, rfl⟩
  go_frame
  gi_wp2
  have hc0 : Ch [] w (((w.alloc (.cells #[.int .u64 0] 22)).alloc (.cells #[.bool false] 4)).alloc (.cells #[.pointer (some ⟨B, 0, none⟩)] 71)) := (((Ch.refl [] w).alloc _).alloc _).alloc _
  have k0 := ((BoxV.new w (.int .u64 0) 22).al (.cells #[.bool false] 4)).al (.cells #[.pointer (some ⟨B, 0, none⟩)] 71)
  have k1 := (BoxV.new (w.alloc (.cells #[.int .u64 0] 22)) (.bool false) 4).al (.cells #[.pointer (some ⟨B, 0, none⟩)] 71)
  have k2 := BoxV.new ((w.alloc (.cells #[.int .u64 0] 22)).alloc (.cells #[.bool false] 4)) (.pointer (some ⟨B, 0, none⟩)) 71
  have hsz : (((w.alloc (.cells #[.int .u64 0] 22)).alloc (.cells #[.bool false] 4)).alloc (.cells #[.pointer (some ⟨B, 0, none⟩)] 71)).heap.size = w.heap.size + 3 := by simp
  simp only [World.size_alloc] at k0 k1 k2
  obtain ⟨W0, hW0⟩ : ∃ W0, (((w.alloc (.cells #[.int .u64 0] 22)).alloc (.cells #[.bool false] 4)).alloc (.cells #[.pointer (some ⟨B, 0, none⟩)] 71)) = W0 := ⟨_, rfl⟩
  simp only [World.size_alloc]
  rw [hW0] at hc0 k0 k1 k2 hsz ⊢
  have HW0 := Lib.hid (HW.out.quiet hc0)
  have HB0 := Lib.hid (hc0.below w.heap.size (fun k hk => by simp at hk) (Nat.le_refl _))
  have HT0 := Lib.hid (HT.out.below HB0.out htab)
  have HRow := Lib.hid (show ∀ k, ¬ rowAt W0 w.heap.size k from fun k ⟨v, h1, h2⟩ => by rw [k0.1] at h1; cases h1; simp [Value.ownBlock] at h2)
  have HNS := Lib.hid (show ¬ S w.heap.size from fun e => absurd (HW.out.hi _ e) (by omega))
  have HRise := Lib.hid HW.out.wi.rise
  clear hW0 hc0
  refine wpIn_range_st rfl (by decide) (gf := 70) (lb := #[.pointer (some ⟨w.heap.size + 1 + 1, 0, none⟩)]) rfl trivial (enters_of Tryz.func70 (by kernel_rfl) rfl)
    (dues_seq 5 HW0.out HT0.out k2.1 (b := w.heap.size) (by omega) HNS.out (by omega) (by omega) HRow.out) st7_objs (fun h k => h.trans k) kp7_b (fun _ => rfl)
    (fun pre W => (pre = [] ∧ BoxV W w.heap.size (.int .u64 0) ∧ BoxV W (w.heap.size + 1) (.bool false)) ∧ Below w.heap.size w W)
    (fun c pre W => (c = .ret ∧ ∃ x, pre = [x] ∧ BoxV W w.heap.size (.int .u64 x.sp.due) ∧ BoxV W (w.heap.size + 1) (.bool true)) ∧ Below w.heap.size w W)
    (OwnFrom.and (fun _ A B row hs hg hr => ⟨hs.1, (Own.from (boxV_own (β := Unit) w.heap.size (fun _ => .int .u64 0)) _) () A B row hs.2.1 hg hr, (Own.from (boxV_own (β := Unit) (w.heap.size + 1) (fun _ => .bool false)) _) () A B row hs.2.2 hg hr⟩) (ownFrom_below (Nat.le_refl _) (by omega)))
    (fun _ _ _ hs hst => ⟨⟨hs.1.1, hs.1.2.1.st hst (by omega), hs.1.2.2.st hst (by omega)⟩, hs.2.trans (hst.belowOf (by omega) hs.2.size)⟩)
    (fun c => OwnFrom.and (fun _ A B row hs hg hr => by
      obtain ⟨h1, x, h2, h3, h4⟩ := hs
      exact ⟨h1, x, h2, (Own.from (boxV_own (β := Unit) w.heap.size (fun _ => .int .u64 x.sp.due)) _) () A B row h3 hg hr, (Own.from (boxV_own (β := Unit) (w.heap.size + 1) (fun _ => .bool true)) _) () A B row h4 hg hr⟩) (ownFrom_below (Nat.le_refl _) (by omega)))
    ⟨⟨rfl, k0, k1⟩, HB0.out⟩
    (fun x => { tmps := #[.pointer (some ⟨B, 0, none⟩), undef, .pointer (some ⟨w.heap.size, 0, none⟩), .pointer (some ⟨w.heap.size + 1, 0, none⟩), .int .u64 x.sp.due, .pointer (some ⟨B, 0, none⟩), .bool false, .pointer (some ⟨B, 0, none⟩), .func (.func 70) #[] #[.pointer (some ⟨w.heap.size + 1 + 1, 0, none⟩)], .int .u64 x.sp.due, .int .i64 x.id, undef], defers := [] }) ?assign ?body ?done ?stop
  case assign =>
    intro l x W K hK
    unfold encT
    gi_wp2
    exact hK
  case body =>
    rintro l pre x W ⟨⟨rfl, b0, b1⟩, hB⟩ _
    have HBW := Lib.hid hB
    have c0 := b0.1
    have c1 := b1.1
    have f0 := b0.2
    have f1 := b1.2
    have HB0' := Lib.hid b0
    have HB1' := Lib.hid b1
    clear hB b0 b1
    gi_wp2
    exact ⟨(KeepsOthers.from ((KeepsOthers.setCell _ _ _).trans (KeepsOthers.setCell _ _ _)) _), ⟨rfl, x, rfl, (HB0'.out.same _).other (by omega) _, (HB1'.out.other (by omega) _).same _⟩, (HBW.out.setCell (p := ⟨w.heap.size, 0, none⟩) (by simp) _).setCell (p := ⟨w.heap.size + 1, 0, none⟩) (by simp) _⟩
  case done =>
    rintro D xs W hD hxs ⟨⟨rfl, b0, b1⟩, hB⟩ hK
    have c0 := b0.1
    have c1 := b1.1
    have f0 := b0.2
    have f1 := b1.2
    gi_wp2
    have hK' := ((KeepsOthers.setCell W ⟨w.heap.size, 0, none⟩ (.int .u64 0)).trans (KeepsOthers.setCell (W.setCell ⟨w.heap.size, 0, none⟩ (.int .u64 0)) ⟨w.heap.size + 1, 0, none⟩ (.bool false))).same D _ hK rfl
    refine ⟨by simp, .inl ⟨_, _, rfl, run_takeDeferred hK', ?_⟩⟩
    have h5 := (((b0.same (.int .u64 0)).other (k := w.heap.size + 1) (by omega) (.bool false)).put hK' rfl (.deferred none)).1
    have h6 := (((b1.other (k := w.heap.size) (by omega) (.int .u64 0)).same (.bool false)).put hK' rfl (.deferred none)).1
    refine ⟨.tuple #[.int .u64 0, .bool false], ?_, ?_, .of_below (below_putObj ((hB.setCell (p := ⟨w.heap.size, 0, none⟩) (by simp) _).setCell (p := ⟨w.heap.size + 1, 0, none⟩) (by simp) _) (by omega) _)⟩
    · simp [results, Tryz.f45, go_sem, h5, h6]
    · rw [← hxs]; rfl
  case stop =>
    rintro D c pre W hD hpre ⟨⟨rfl, x, rfl, b0, b1⟩, hB⟩ hK
    gi_wp2
    refine ⟨by simp, .inl ⟨_, _, rfl, run_takeDeferred hK, ?_⟩⟩
    have h5 := (b0.put hK rfl (.deferred none)).1
    have h6 := (b1.put hK rfl (.deferred none)).1
    refine ⟨.tuple #[.int .u64 x.sp.due, .bool true], ?_, ?_, .of_below (below_putObj hB (by omega) _)⟩
    · simp [results, Tryz.f45, go_sem, h5, h6]
    · obtain ⟨r, hr⟩ := hpre
      rw [← hr]; rfl
end Go.Proofs.YtnndofeomakpiaaGreatDoor
namespace Go.Proofs.YtnndofeomakpiaaGreatDoor
open Go.RowKit Go.Maps Go.Sort Go.Shelf

theorem stepIn_append_own_at {F : Fence} {n : Nat} {P : Program} {w : World} {ops : Array Oper} {o : Oper} {a : Act} {K : Act → World → Prop} {Q : Exit → Act → World → Prop} {E : Prop} (hgd : o.guard = none) (s x : Operand) (t : TypeId)
    (ho : o.op = .call { callee := .builtin .append, args := #[s, x], argTypes := #[t, t] })
    (base : Nat) (e : TypeId) (i : TypeInfo) (z : Value) (size bytes : Nat) (ht : P.underlying t = some (.slice e)) (hi : P.info? e = some i) (hz : i.zero = some z)
    (hsize : i.size = size) (hby : i.bytes = bytes) (hzs : z.cells.size = size) (hsz : 0 < size)
    (v : Value) (k : Nat) (xs : List Value) (hs : a.eval s = v) (hown : w.ownsRow base e size v k xs)
    (ad : Addr) (m c : Nat) (news : List Value) (hx : a.eval x = .slice (some ad) m c) (hl : news.length = m * size) (hnews : ∀ j u, news[j]? = some u → w.cell? (ad.add j) = some u) (h1 : ∀ u ∈ news, u.oneCell' = true)
    (h63 : k + m ≤ maxLen) (hbytes : (k + m) * bytes ≤ 140737488355328) (hbase : base ≤ w.heap.size)
    (h : ∀ v' w', w'.ownsRow base e size v' (k + m) (xs ++ news) → w.grownBy w' v.ownBlock → (v' = .slice none 0 0 ↔ v = .slice none 0 0 ∧ m = 0) → (v'.ownBlock = v.ownBlock ∨ v'.ownBlock = some w.heap.size) → K (a.put o.dst v') w') :
    if Region.wanted o (yielded ops a.tmps) = true then Oper.wpIn F n P o a w K Q else E := by
  have hw : Region.wanted o (yielded ops a.tmps) = true := by simp [Region.wanted, hgd]
  rw [if_pos hw]
  obtain ⟨v', w', hrun, r1, r2, r3, r4⟩ := run_append_own_at (P := P) w base t o.type e i z size bytes ht hi hz hsize hby hzs hsz v k xs hown ad m c news hl hnews h1 h63 hbytes hbase
  unfold Oper.wpIn
  refine ⟨?_, ?_⟩
  · simp [Oper.about, ho, resolve, Target.leads, Sem.run_pure]
  · rw [Oper.semAt_plain F _ _ (by rw [ho]; intro c hc'; cases hc')]
    simp [execOp, ho, resolve, invoke, builtin, hs, hx, hrun, Result.andThen]
    exact h v' w' r1 r2 r3 r4

theorem id_inj {L : List Tm} (h : (L.map (·.id)).Nodup) {s t : Tm} (hs : s ∈ L) (ht : t ∈ L) (e : s.id = t.id) : s = t := by
  have h1 := find_in h hs
  have h2 := find_in h ht
  rw [e] at h1
  rw [h1] at h2
  exact Option.some.inj h2
/-- Those that are due by a tick. -/
def upto (L : List Tm) (d : Int) : List Tm := L.filter fun t => decide (t.sp.due ≤ d)
theorem upto_mem {L : List Tm} {d : Int} {t : Tm} : t ∈ upto L d ↔ t ∈ L ∧ t.sp.due ≤ d := by simp [upto]
theorem delL_out {L : List Tm} (hnd : (L.map (·.id)).Nodup) (d : Int) : delL L ((DL (upto L d)).map (·.id)) = later L d := by
  rw [delL_eq]
  unfold later
  apply List.filter_congr
  intro t ht
  rw [Bool.eq_iff_iff]
  simp only [decide_eq_true_eq, List.mem_map, DL_mem, upto_mem]
  constructor
  · intro h
    rcases Int.lt_or_le d t.sp.due with h1 | h1
    · exact h1
    · exact absurd ⟨t, ⟨ht, h1⟩, rfl⟩ h
  · rintro h ⟨s, ⟨hs, hd⟩, e⟩
    rw [id_inj hnd hs ht e] at hd
    omega
theorem WI.later {now now' : Int} {puts : Nat} {L : List Tm} (h : WI now puts L) (hw : Wd now') (hle : now ≤ now') : WI now' puts (later L now') :=
  ⟨hw, h.rise.filter _, fun t ht => h.lt t (later_mem.1 ht).1, fun t ht => (h.fits t (later_mem.1 ht).1).later hle (later_mem.1 ht).2, (List.Sublist.map _ List.filter_sublist).nodup h.nd, fun t ht => h.ids t (later_mem.1 ht).1⟩
/-- Those that came out, where the loop ended. -/
theorem upto_all {L pre : List Tm} (e : DL L = pre) {d : Int} (hp : ∀ t ∈ pre, t.sp.due ≤ d) : pre = DL (upto L d) := by
  have h : upto L d = L := List.filter_eq_self.2 (fun t ht => by simpa using hp t (by rw [← e]; exact DL_mem.2 ht))
  rw [h, e]
theorem upto_cut {L pre : List Tm} {x : Tm} (h : Rising L) (e : pre ++ [x] <+: DL L) {d : Int} (hp : ∀ t ∈ pre, t.sp.due ≤ d) (hx : d < x.sp.due) : pre = DL (upto L d) := by
  obtain ⟨r, hr⟩ := e
  have e1 : DL L = pre ++ x :: r := by rw [← hr]; simp
  exact DL_cut h e1 d hp (DL_rest h e1 hx)
theorem upto_length (L : List Tm) (d : Int) : (upto L d).length ≤ L.length := List.length_filter_le _ _
theorem ints_own {w : World} {B e n cap : Nat} {a : Option Addr} {zs : List Int} (h : w.ownsRow B e 1 (.slice a n cap) n (zs.map iv)) : Mk.IntsAt w a zs ∧ n = zs.length := by
  have hl := h.1
  simp at hl
  refine ⟨?_, hl.symm⟩
  rcases h.2 with ⟨e1, rfl⟩ | ⟨g, cp, cur, e1, hg⟩
  · exact .inl (List.eq_nil_of_length_eq_zero (by omega))
  · cases e1
    refine .inr ⟨g, 0, rfl, fun i hi => ?_⟩
    have := h.cellAt i (by omega)
    rw [Nat.zero_add, this, List.getElem?_map, List.getElem?_eq_getElem hi]
    rfl
end Go.Proofs.YtnndofeomakpiaaGreatDoor
namespace Go.Proofs.YtnndofeomakpiaaGreatDoor
open Go.RowKit

/-- The timers 0, 1 .. put at a wheel's tick, at these deadlines. -/
def PL (now : Int) (z : Nat → Int) (k : Nat) : List Tm := (List.range k).map fun (j : Nat) => ⟨(j : Int), placeV now (z j), j⟩
theorem PL_zero (now : Int) (z : Nat → Int) : PL now z 0 = [] := rfl
theorem PL_succ (now : Int) (z : Nat → Int) (k : Nat) : PL now z (k + 1) = PL now z k ++ [⟨(k : Int), placeV now (z k), k⟩] := by
  unfold PL
  rw [List.range_succ, List.map_append]
  rfl
theorem PL_mem {now : Int} {z : Nat → Int} {k : Nat} {t : Tm} : t ∈ PL now z k ↔ ∃ j, j < k ∧ t = ⟨(j : Int), placeV now (z j), j⟩ := by
  unfold PL
  simp only [List.mem_map, List.mem_range]
  constructor
  · rintro ⟨j, h1, h2⟩; exact ⟨j, h1, h2.symm⟩
  · rintro ⟨j, h1, h2⟩; exact ⟨j, h1, h2.symm⟩
theorem PL_length (now : Int) (z : Nat → Int) (k : Nat) : (PL now z k).length = k := by simp [PL]
theorem PL_no {now : Int} {z : Nat → Int} {k : Nat} : ∀ t ∈ PL now z k, t.id ≠ (k : Int) := by
  intro t ht
  obtain ⟨j, hj, rfl⟩ := PL_mem.1 ht
  simp only []
  omega
theorem PL_nil {now : Int} {z : Nat → Int} {k : Nat} (h : PL now z k = []) : k = 0 := by
  have := congrArg List.length h
  rwa [PL_length] at this

/-- Who comes out by a tick, in order. -/
def outs (L : List Tm) (d : Int) : List Int := (DL (upto L d)).map (·.id)
theorem outs_length (L : List Tm) (d : Int) : (outs L d).length = (upto L d).length := by rw [outs, List.length_map, DL_length]
theorem outs_mem {L : List Tm} {d : Int} {x : Int} : x ∈ outs L d ↔ ∃ t ∈ L, t.sp.due ≤ d ∧ t.id = x := by
  unfold outs
  simp only [List.mem_map, DL_mem, upto_mem]
  constructor
  · rintro ⟨t, ⟨h1, h2⟩, h3⟩; exact ⟨t, h1, h2, h3⟩
  · rintro ⟨t, h1, h2, h3⟩; exact ⟨t, ⟨h1, h2⟩, h3⟩
theorem upto_later (L : List Tm) {d e : Int} (h : d ≤ e) : later (later L d) e = later L e := by
  unfold later
  rw [List.filter_filter]
  apply List.filter_congr
  intro t _
  rw [Bool.eq_iff_iff]
  simp only [Bool.and_eq_true, decide_eq_true_eq]
  omega
theorem upto_nil {L : List Tm} {d : Int} (h : ∀ t ∈ L, d < t.sp.due) : upto L d = [] := List.filter_eq_nil_iff.2 (fun t ht => by have := h t ht; simp; omega)
theorem later_all {L : List Tm} {d : Int} (h : ∀ t ∈ L, d < t.sp.due) : later L d = L := List.filter_eq_self.2 (fun t ht => by have := h t ht; simpa using this)
theorem outs_nil {L : List Tm} {d : Int} (h : ∀ t ∈ L, d < t.sp.due) : outs L d = [] := by rw [outs, upto_nil h, DL_nil]; rfl
/-- However far at once. -/
theorem DL_two {L : List Tm} (hr : Rising L) {d e : Int} (h : d ≤ e) : DL (upto L d) ++ DL (upto (later L d) e) = DL (upto L e) := by
  refine DL_only (hr.filter _) ?_ ?_
  · refine ((DL_perm _).append (DL_perm _)).trans ?_
    have e1 : upto L d = (upto L e).filter (fun t => decide (t.sp.due ≤ d)) := by
      unfold upto
      rw [List.filter_filter]
      apply List.filter_congr
      intro t _
      rw [Bool.eq_iff_iff]
      simp only [Bool.and_eq_true, decide_eq_true_eq]
      omega
    have e2 : upto (later L d) e = (upto L e).filter (fun t => !decide (t.sp.due ≤ d)) := by
      unfold upto later
      rw [List.filter_filter, List.filter_filter]
      apply List.filter_congr
      intro t _
      rw [Bool.eq_iff_iff]
      simp only [Bool.and_eq_true, decide_eq_true_eq, Bool.not_eq_true', decide_eq_false_iff_not]
      omega
    rw [e1, e2]
    exact List.filter_append_perm _ _
  · rw [List.pairwise_append]
    refine ⟨DL_sorted (hr.filter _), DL_sorted ((hr.filter _).filter _), fun a ha b hb => ?_⟩
    rw [DL_mem, upto_mem] at ha hb
    have := (later_mem.1 hb.1).2
    left
    omega
theorem outs_two {L : List Tm} (hr : Rising L) {d e : Int} (h : d ≤ e) : outs L d ++ outs (later L d) e = outs L e := by
  unfold outs
  rw [← List.map_append, DL_two hr h]
/-- All due at one tick: in the order in which they were put. -/
theorem DL_one {L : List Tm} (hr : Rising L) {d : Int} (h : ∀ t ∈ L, t.sp.due = d) : DL L = L := by
  refine (DL_only hr (List.Perm.refl _) ?_).symm
  refine List.Pairwise.imp_of_mem (fun {a b} ha hb hlt => ?_) hr
  right
  exact ⟨by rw [h a ha, h b hb], hlt⟩
end Go.Proofs.YtnndofeomakpiaaGreatDoor
namespace Go.Proofs.YtnndofeomakpiaaGreatDoor
open Go.RowKit Go.Maps Go.Sort Go.Shelf

attribute [local go_sem] Oper.semAt_some

theorem infoI : (Tryz.prog.info? 3).map (fun i => (i.zero, i.size, i.bytes)) = some (some (.int .i64 0), 1, 8) := by kernel_rfl
theorem boxed_boxV {W : World} {b : Nat} {t : TypeId} {v : Value} (h : Boxed W b t v) : BoxV W b v := ⟨h.cell, h.frozen⟩
theorem rowAt_box {W : World} {b : Nat} {t : TypeId} {v : Value} (h : Boxed W b t v) {k : Nat} : rowAt W b k ↔ v.ownBlock = some k := by
  constructor
  · rintro ⟨u, h1, h2⟩
    rw [h.cell] at h1
    cases h1
    exact h2
  · intro e
    exact ⟨v, h.cell, e⟩
/-- A round that appends to the row in the box. -/
theorem kp7_push {b n0 k m size : Nat} {W w2 : World} {v v' : Value} {t e : TypeId} {base : Nat} {xs ys : List Value} {o : Obj} (hb : Boxed W b t v) (hte : t ≠ e) (hrow : W.ownsRow base e size v k xs) (hrow' : w2.ownsRow base e size v' m ys)
    (hg : (W.alloc o).grownBy w2 v.ownBlock) (hat : v'.ownBlock = v.ownBlock ∨ v'.ownBlock = some (W.alloc o).heap.size) : Kp7 b n0 W (w2.setCell ⟨b, 0, none⟩ v') := by
  have hb2 : Boxed w2 b t v := (hb.alloc o).kept hg (hb.not_row hte hrow)
  have hb3 := hb2.set v'
  have hs : W.heap.size + 1 ≤ w2.heap.size := by have := hg.size; simp at this; omega
  refine ⟨hg.os, hg.tape, hg.output, by simp [World.setCell]; omega, fun i hi hib hir _ => ?_, fun i hi => ?_⟩
  · rw [rowAt_box hb] at hir
    exact (Below.heap_setCell _ _ _ _ hib).trans ((hg.block i (by simp; omega) (fun e => hir e.symm)).trans (Below.heap_alloc _ _ _ hi))
  · rw [rowAt_box hb3] at hi
    rw [rowAt_box hb]
    rcases hat with h1 | h1
    · exact .inl (by rw [← h1]; exact hi)
    · rw [h1] at hi
      have : i = W.heap.size + 1 := by simpa using hi.symm
      have hlt := (hrow'.lt i (by rw [h1]; exact hi)).2
      exact .inr ⟨by omega, by simp [World.setCell]; omega⟩
theorem boxed_st {W W' : World} {b k n1 : Nat} {t : TypeId} {v : Value} (h : Boxed W b t v) (hs : St7 k n1 W W') (hn : b < n1) : Boxed W' b t v := (hs.keep b h.lt (.inl hn)).trans h
theorem own_st {W W' : World} {b n1 base e s n : Nat} {v : Value} {xs : List Value} (h : W.ownsRow base e s v n xs) (hc : W.cell? ⟨b, 0, none⟩ = some v) (hs : St7 b n1 W W') : W'.ownsRow base e s v n xs := by
  obtain ⟨h1, h2⟩ := h
  refine ⟨h1, ?_⟩
  rcases h2 with h2 | ⟨g, cap, cur, rfl, hb, hg, r⟩
  · exact .inl h2
  · exact .inr ⟨g, cap, cur, rfl, hb, (hs.keep g (Array.getElem?_eq_some_iff.1 hg).1 (.inr (.inr ⟨_, hc, rfl⟩))).trans hg, r⟩

theorem chP_putObj (W : World) (D : Nat) (o : Obj) : ChP (fun k => k = D) W (W.putObj D o) := ⟨rfl, rfl, rfl, by simp [World.putObj], fun _ _ hn => World.putObj_heap_other hn⟩

theorem to_less {w : World} {base B : Nat} {S : Nat → Prop} {now : Int} {puts : Nat} {L : List Tm} (h : WB w base B S now puts L) {now' : Int} (hle : now' ≤ now) :
    Calls Tryz.prog 34 #[.pointer (some ⟨B, 0, none⟩), .int .u64 now'] w fun e w' => e = .returned (.slice none 0 0) ∧ Ch [] w w' := by
  have hB := h.hi B h.own
  have hd : decide (now' ≤ now) = true := decide_eq_true hle
  have hal : Ch [] w (w.alloc (.cells #[.int .u64 now'] 22)) := (Ch.refl [] w).alloc _
  have cb := (cell_new w (.int .u64 now') 22).1
  have c0 := (hal.cell (p := ⟨B, 0, none⟩) hB (by simp)).trans h.c0
  obtain ⟨W1, hW1⟩ : ∃ W1, w.alloc (.cells #[.int .u64 now'] 22) = W1 := ⟨_, rfl⟩
  rw [hW1] at hal cb c0
  have HAl := Lib.hid hal
  clear h hle hal hB
  go_enter Tryz.func34, Tryz.ntmps34
  go_wp2_with fail
  go_quiet (fail)
  go_wp2_with fail
  go_ret
  exact ⟨rfl, HAl.out.drewN _⟩

set_option maxRecDepth 100000 in
set_option maxHeartbeats 4000000 in
theorem to_any {w : World} {base B : Nat} {S : Nat → Prop} {now : Int} {puts : Nat} {L : List Tm} (h : WB w base B S now puts L) (hT : Mk.Tab w) {now' : Int} (hnw : Wd now') (hlt : now < now') :
    Calls Tryz.prog 34 #[.pointer (some ⟨B, 0, none⟩), .int .u64 now'] w fun e w' =>
      ∃ v, e = .returned v ∧ w'.ownsRow w.heap.size 3 1 v (outs L now').length ((outs L now').map iv) ∧ WB w' base B S now' puts (later L now') ∧ ChP S w w' := by
  refine (callsIn_wide (n := 6)).1 ?_
  obtain ⟨zs, hzs⟩ : ∃ zs, zs = outs L now' := ⟨_, rfl⟩
  obtain ⟨n, hn⟩ : ∃ n, n = zs.length := ⟨_, rfl⟩
  rw [← hzs, ← hn]
  have HZs := Lib.hid hzs
  have HNs := Lib.hid hn
  clear hzs hn
  have HW := Lib.hid h
  have HT := Lib.hid hT
  have HNw := Lib.hid hnw
  have hB := h.hi B h.own
  have htab : 0 < w.heap.size := cell_lt (hT 0 (by decide))
  have hdle : decide (now' ≤ now) = false := decide_eq_false (by omega)
  have HLt := Lib.hid hlt
  have hal : Ch [] w (w.alloc (.cells #[.int .u64 now'] 22)) := (Ch.refl [] w).alloc _
  have kb := BoxV.new w (.int .u64 now') 22
  have cb := kb.1
  have c0 := (hal.cell (p := ⟨B, 0, none⟩) hB (by simp)).trans h.c0
  have hs1 : (w.alloc (.cells #[.int .u64 now'] 22)).heap.size = w.heap.size + 1 := by simp
  obtain ⟨W1, hW1⟩ : ∃ W1, w.alloc (.cells #[.int .u64 now'] 22) = W1 := ⟨_, rfl⟩
  rw [hW1] at hal cb c0 kb hs1
  have HAl0 := Lib.hid hal
  have HKb0 := Lib.hid kb
  have HS1 := Lib.hid hs1
  have hw : ∀ f, Fence.wide.fn f := fun _ => trivial
  have hd : Fence.wide.depth = none := rfl
  clear h hT hnw hlt hal kb hs1
  refine callsIn_of_wp_marks Tryz.func34 rfl trivial ?_ rfl
  simp only [Tryz.ntmps34, List.size_toArray, List.length_cons, List.length_nil, Nat.reduceAdd, Nat.reduceSub, Array.replicate_succ, Array.replicate_zero, List.push_toArray, List.append_toArray, List.nil_append, List.cons_append]
  gi_wp2
  rw [wpIn_wide]
  go_quiet (fail)
  have HAl := Lib.hid (HAl0.out.drewN nq)
  have HKb : Hid (BoxV (W1.drewN nq) w.heap.size (.int .u64 now')) := Lib.hid HKb0.out
  have HS : Hid ((W1.drewN nq).heap.size = w.heap.size + 1) := HS1
  clear cb c0 HAl0 HKb0 HS1 hW1
  generalize W1.drewN nq = W2 at *
  gi_wp2
  with_reducible refine (callsIn_wide.2 (wdues_any B _)).mono ?_
  rintro e w1 ⟨rfl, rfl⟩
  go_frame
  gi_wp2
  obtain ⟨W3, hW3⟩ : ∃ W3, ((W2.alloc (.cells #[.slice none 0 0] 24)).alloc (.cells #[.pointer (some ⟨B, 0, none⟩)] 71)) = W3 := ⟨_, rfl⟩
  have hc3 : Ch [] W2 W3 := by rw [← hW3]; exact ((Ch.refl [] W2).alloc _).alloc _
  have k0 : Boxed W3 W2.heap.size 24 (.slice none 0 0) := by rw [← hW3]; exact (Boxed.new W2 24 (.slice none 0 0)).alloc _
  have k2 : BoxV W3 (W2.heap.size + 1) (.pointer (some ⟨B, 0, none⟩)) := by
    have := BoxV.new (W2.alloc (.cells #[.slice none 0 0] 24)) (.pointer (some ⟨B, 0, none⟩)) 71
    rw [World.size_alloc, hW3] at this
    exact this
  have hsz : W2.heap.size + 2 ≤ W3.heap.size := by rw [← hW3]; simp
  have hB3 : Below W2.heap.size W2 W3 := hc3.below _ (fun k hk => by simp at hk) (Nat.le_refl _)
  simp only [World.size_alloc]
  rw [hW3]
  have hs2 : w.heap.size < W2.heap.size := by rw [HS.out]; exact Nat.lt_succ_self _
  have HW3 := Lib.hid ((HW.out.quiet HAl.out).quiet hc3)
  have HB3 := Lib.hid hB3
  have HC3 := Lib.hid (HAl.out.trans hc3)
  have HT3 := Lib.hid (HT.out.below ((HAl.out.trans hc3).below w.heap.size (fun k hk => by simp at hk) (Nat.le_refl _)) htab)
  have HRow := Lib.hid (show ∀ k, ¬ rowAt W3 W2.heap.size k from fun k e => by rw [rowAt_box k0] at e; simp [Value.ownBlock] at e)
  have HNS := Lib.hid (show ¬ S W2.heap.size from fun e => absurd (HW.out.hi _ e) (by omega))
  have HRise := Lib.hid HW.out.wi.rise
  have HLen := Lib.hid HW.out.wi.len
  obtain ⟨i0, hi, hz0, hz1, hz2⟩ := info_parts infoI
  clear hW3 hc3 hB3
  refine wpIn_range_st rfl (by decide) (gf := 70) (lb := #[.pointer (some ⟨W2.heap.size + 1, 0, none⟩)]) rfl trivial (enters_of Tryz.func70 (by kernel_rfl) rfl)
    (dues_seq 5 HW3.out HT3.out k2.1 (b := W2.heap.size) (by omega) HNS.out (by omega) (by omega) HRow.out) st7_objs (fun h k => h.trans k) kp7_b (fun _ => rfl)
    (fun pre W => ((∃ v, Boxed W W2.heap.size 24 v ∧ W.ownsRow W2.heap.size 3 1 v pre.length (pre.map fun t => iv t.id) ∧ True) ∧ Below W2.heap.size W2 W) ∧ ∀ t ∈ pre, t.sp.due ≤ now')
    (fun c pre W => ((∃ v, Boxed W W2.heap.size 24 v ∧ W.ownsRow W2.heap.size 3 1 v pre.dropLast.length (pre.dropLast.map fun t => iv t.id) ∧ True) ∧ Below W2.heap.size W2 W) ∧ c = .exit 0 ∧ ∃ p x, pre = p ++ [x] ∧ (∀ t ∈ p, t.sp.due ≤ now') ∧ now' < x.sp.due)
    (OwnFrom.and (OwnFrom.and (Own.from (holdsRow_own W2.heap.size W2.heap.size 24 3 1 (fun pre : List Tm => pre.length) (fun pre => pre.map fun t => iv t.id) (fun _ _ => True)) _) (ownFrom_below (Nat.le_refl _) (by omega))) (ownFrom_pure _ (fun pre : List Tm => ∀ t ∈ pre, t.sp.due ≤ now')))
    (fun s A A' hs hst => by
      obtain ⟨⟨⟨v, h1, h2, _⟩, h3⟩, h4⟩ := hs
      exact ⟨⟨⟨v, boxed_st h1 hst (by omega), own_st h2 h1.cell hst, trivial⟩, h3.trans (hst.belowOf (by omega) h3.size)⟩, h4⟩)
    (fun c => OwnFrom.and (OwnFrom.and (Own.from (holdsRow_own W2.heap.size W2.heap.size 24 3 1 (fun pre : List Tm => pre.dropLast.length) (fun pre => pre.dropLast.map fun t => iv t.id) (fun _ _ => True)) _) (ownFrom_below (Nat.le_refl _) (by omega))) (ownFrom_pure _ (fun pre : List Tm => c = .exit 0 ∧ ∃ p x, pre = p ++ [x] ∧ (∀ t ∈ p, t.sp.due ≤ now') ∧ now' < x.sp.due)))
    ⟨⟨⟨_, k0, World.ownsRow_nil _ _ _ _, trivial⟩, HB3.out⟩, by simp⟩
    (fun x => { tmps := #[.pointer (some ⟨B, 0, none⟩), .int .u64 now', undef, .pointer (some ⟨w.heap.size, 0, none⟩), .slice none 0 0, .pointer (some ⟨W2.heap.size, 0, none⟩), .int .u64 x.sp.due, .int .i64 x.id, .pointer (some ⟨B, 0, none⟩), .bool false, .bool false, .int .u64 now', .pointer (some ⟨B, 0, none⟩), .pointer (some ⟨B, 0, none⟩), .pointer (some ⟨B, 0, none⟩), .int .u64 now, .bool false, .bool false, .pointer (some ⟨B, 0, none⟩),
      .func (.func 70) #[] #[.pointer (some ⟨W2.heap.size + 1, 0, none⟩)], .int .u64 x.sp.due, .int .i64 x.id, undef, undef, undef, undef, undef, undef, undef, undef, undef, undef, undef, undef, undef, undef, undef], defers := [] }) ?assign ?body ?done ?stop
  case assign =>
    intro l x W K hK
    unfold encT
    gi_wp2
    exact hK
  case body =>
    rintro l pre x W ⟨⟨⟨v, hv, hrow, _⟩, hBW⟩, hall⟩ hlen
    have hc := hv.cell
    have hcb : W.cell? ⟨w.heap.size, 0, none⟩ = some (.int .u64 now') := (hBW.cell (p := ⟨w.heap.size, 0, none⟩) (by show w.heap.size < _; omega)).trans HKb.out.1
    have HV := Lib.hid hv
    have HR := Lib.hid hrow
    have HBW := Lib.hid hBW
    have HAll := Lib.hid hall
    have hl256 := HLen.out
    have hbs := hBW.size
    rcases Int.lt_or_le now' x.sp.due with hx | hx
    · have hgt : decide (now' < x.sp.due) = true := decide_eq_true hx
      have HX := Lib.hid hx
      clear hv hrow hBW hall hx
      gi_wp2
      exact ⟨KeepsFrom.refl _ _, ⟨⟨v, HV.out, by rw [List.dropLast_concat]; exact HR.out, trivial⟩, HBW.out⟩, rfl, pre, x, rfl, HAll.out, HX.out⟩
    · have hgt : decide (now' < x.sp.due) = false := decide_eq_false (by omega)
      have HX := Lib.hid hx
      clear hv hrow hBW hall hx
      gi_wp2_with (gi_at_builtin; refine wpListIn_append_own_at _ rfl _ _ 24 rfl W2.heap.size 3 i0 (.int .i64 0) 1 8 Tryz.underlying24 hi hz0 hz1 hz2 rfl (by decide) v pre.length (pre.map fun t => iv t.id) rfl (HR.out.alloc _) ⟨W.heap.size, 0, none⟩ 1 1 [.int .i64 x.id] rfl rfl (Go.cell_one_new _ _ _) (by simp [Value.oneCell']) (by unfold maxLen; omega) (by omega) (by simp; omega) ?_; intro v' w3 hown' hgrow hnil hat; obtain ⟨g', cap', rfl⟩ := ownsRow_succ hown'; have A := HV.out.appended (by decide) HR.out hbs (Nat.le_refl _) hown' hgrow; have hc1 := A.1.cell; have hf1 := A.1.frozen; have HA := Lib.hid A; have HK := Lib.hid (kp7_push (n0 := W3.heap.size) HV.out (by decide) HR.out hown' hgrow hat); clear A hown' hgrow hnil hat)
      obtain ⟨_, a2, a3, a4, a5⟩ := HA.out
      refine ⟨a4.from _, HK.out, ⟨⟨_, a2, ?_, trivial⟩, HBW.out.trans a5⟩, fun t ht => ?_⟩
      · rw [List.length_append, List.map_append]
        exact a3
      · rcases List.mem_append.1 ht with ht | ht
        · exact HAll.out t ht
        · obtain rfl : t = x := by simpa using ht
          exact HX.out
  case done =>
    rintro D xs W hD hxs ⟨⟨⟨v, hv, hrow, _⟩, hBW⟩, hall⟩ hK
    have ez : xs = DL (upto L now') := upto_all hxs.symm hall
    have hrow' : W.ownsRow W2.heap.size 3 1 v (outs L now').length ((outs L now').map iv) := by
      unfold outs
      rw [List.length_map, List.map_map]
      rw [ez] at hrow
      exact hrow
    have hWB := HW.out.quiet (HAl.out.trans (.of_below hBW))
    have HZi := Lib.hid (show ∀ x ∈ outs L now', wf64 x from fun x hx => by
      obtain ⟨t, ht, _, rfl⟩ := outs_mem.1 hx
      exact wf_small (HW.out.wi.ids t ht).1 (HW.out.wi.ids t ht).2)
    have HZl := Lib.hid (show (outs L now').length ≤ 256 from by rw [outs_length]; exact Nat.le_trans (upto_length L now') HLen.out)
    have HZd := Lib.hid (show delL L (outs L now') = later L now' from delL_out HW.out.wi.nd now')
    have HSlt := Lib.hid (show ∀ k, S k → k < w.heap.size from HW.out.hi)
    have hcb : W.cell? ⟨w.heap.size, 0, none⟩ = some (.int .u64 now') := (hBW.cell (p := ⟨w.heap.size, 0, none⟩) (by show w.heap.size < _; omega)).trans HKb.out.1
    have hzs := HZs.out
    have hn := HNs.out
    rw [← hzs] at hrow' HZi HZl HZd
    rw [← hn] at hrow' HZl
    obtain ⟨a, cap, rfl⟩ := own_form hrow'
    have hnb : ∀ b o, a = some ⟨b, o, none⟩ → ¬ S b := by
      rintro b o rfl hS
      have h1 := (hrow'.lt b (by simp [Value.ownBlock])).1
      have h2 := HSlt.out b hS
      omega
    have hdel := del_any (cap := cap) hWB (ints_own hrow').1 (by rw [← hn]; have := HZl.out; omega) HZi.out hnb
    rw [HZd.out, ← hn] at hdel
    have HDel := Lib.hid hdel
    have HRow' := Lib.hid hrow'
    have HV := Lib.hid hv
    have HK := Lib.hid hK
    have HBW := Lib.hid hBW
    have HDs := Lib.hid (Nat.le_trans hsz hD)
    have hcl := hv.cell
    have hBw : B < W.heap.size := hWB.hi B hWB.own
    clear hdel hrow' hrow hv hK hBW hWB hnb hzs hn ez hall hxs
    gi_wp2
    with_reducible refine (callsIn_wide.2 HDel.out).mono ?_
    rintro e w4 ⟨rfl, hwb4, hch4⟩
    have hW2lt := HBW.out.size
    have c0 := hwb4.c0
    have f0 := hwb4.wc.fr 0
    have cb4 : w4.cell? ⟨w.heap.size, 0, none⟩ = some (.int .u64 now') := (hch4.cell (p := ⟨w.heap.size, 0, none⟩) (by show w.heap.size < _; omega) (fun e => by have := HSlt.out _ e; simp at this)).trans hcb
    have cl4 : w4.cell? ⟨W2.heap.size, 0, none⟩ = some (.slice a n cap) := (hch4.cell (p := ⟨W2.heap.size, 0, none⟩) (cell_lt hcl) (fun e => by have h1 := HSlt.out _ e; simp only at h1; omega)).trans hcl
    have HW4 := Lib.hid hwb4
    have HC4 := Lib.hid hch4
    clear hwb4 hch4 hcl hcb
    go_frame
    gi_wp2
    have hD4 : (w4.setCell ⟨B, 0, none⟩ (.int .u64 now')).heap[D]? = some (.deferred (some [])) := (KeepsOthers.setCell w4 ⟨B, 0, none⟩ (.int .u64 now')).same D _ ((HC4.out.block D (Array.getElem?_eq_some_iff.1 HK.out).1 (fun e => by have h1 := HSlt.out _ e; have h2 := HDs.out; omega)).trans HK.out) rfl
    refine ⟨by simp, .inl ⟨_, _, rfl, run_takeDeferred hD4, ?_⟩⟩
    have hcw : ChP S w (w4.setCell ⟨B, 0, none⟩ (.int .u64 now')) := ((ChP.quiet (HAl.out.trans (.of_below HBW.out))).trans HC4.out).setCell (p := ⟨B, 0, none⟩) (.inl HW.out.own) _
    have hrow5 : (w4.setCell ⟨B, 0, none⟩ (.int .u64 now')).ownsRow W2.heap.size 3 1 (.slice a n cap) n (zs.map iv) := by
      have hns : ∀ g, (Value.slice a n cap).ownBlock = some g → ¬ S g := fun g hg e => by
        have h1 := (HRow'.out.lt g hg).1
        have h2 := HSlt.out g e
        omega
      exact own_chP (own_chP HRow'.out HC4.out hns) (chB w4 0 _) (fun g hg e => hns g hg (e ▸ HW.out.own))
    refine ⟨.slice a n cap, ?_, _, rfl, own_mono (ownsRow_putObj hrow5 (.deferred none) hD4 rfl) (by omega), ⟨HW.out.wi.later HNw.out (by have := HLt.out; omega), ?_, fun k hk => ?_⟩, hcw.fresh (chP_putObj _ D (.deferred none)) (fun k e => .inr (by have := HDs.out; omega))⟩
    · simp [results, Tryz.f34, go_sem]
    · exact (HW4.out.wc.set0 now').frame (chP_putObj _ D (.deferred none)) (fun k _ hk e => by have h1 := HSlt.out _ hk; have h2 := HDs.out; omega)
    · have h1 := HSlt.out k hk
      have h2 := hcw.size
      have h3 : (World.putObj (w4.setCell ⟨B, 0, none⟩ (.int .u64 now')) D (.deferred none)).heap.size = (w4.setCell ⟨B, 0, none⟩ (.int .u64 now')).heap.size := by simp [World.putObj]
      rw [h3]
      omega
  case stop =>
    rintro D c pre W hD hpre ⟨⟨⟨v, hv, hrow, _⟩, hBW⟩, rfl, p, x, rfl, hall, hx⟩ hK
    rw [List.dropLast_concat] at hrow
    have ez : p = DL (upto L now') := upto_cut HRise.out hpre hall hx
    have hrow' : W.ownsRow W2.heap.size 3 1 v (outs L now').length ((outs L now').map iv) := by
      unfold outs
      rw [List.length_map, List.map_map]
      rw [ez] at hrow
      exact hrow
    have hWB := HW.out.quiet (HAl.out.trans (.of_below hBW))
    have HZi := Lib.hid (show ∀ x ∈ outs L now', wf64 x from fun x hx => by
      obtain ⟨t, ht, _, rfl⟩ := outs_mem.1 hx
      exact wf_small (HW.out.wi.ids t ht).1 (HW.out.wi.ids t ht).2)
    have HZl := Lib.hid (show (outs L now').length ≤ 256 from by rw [outs_length]; exact Nat.le_trans (upto_length L now') HLen.out)
    have HZd := Lib.hid (show delL L (outs L now') = later L now' from delL_out HW.out.wi.nd now')
    have HSlt := Lib.hid (show ∀ k, S k → k < w.heap.size from HW.out.hi)
    have hcb : W.cell? ⟨w.heap.size, 0, none⟩ = some (.int .u64 now') := (hBW.cell (p := ⟨w.heap.size, 0, none⟩) (by show w.heap.size < _; omega)).trans HKb.out.1
    have hzs := HZs.out
    have hn := HNs.out
    rw [← hzs] at hrow' HZi HZl HZd
    rw [← hn] at hrow' HZl
    obtain ⟨a, cap, rfl⟩ := own_form hrow'
    have hnb : ∀ b o, a = some ⟨b, o, none⟩ → ¬ S b := by
      rintro b o rfl hS
      have h1 := (hrow'.lt b (by simp [Value.ownBlock])).1
      have h2 := HSlt.out b hS
      omega
    have hdel := del_any (cap := cap) hWB (ints_own hrow').1 (by rw [← hn]; have := HZl.out; omega) HZi.out hnb
    rw [HZd.out, ← hn] at hdel
    have HDel := Lib.hid hdel
    have HRow' := Lib.hid hrow'
    have HV := Lib.hid hv
    have HK := Lib.hid hK
    have HBW := Lib.hid hBW
    have HDs := Lib.hid (Nat.le_trans hsz hD)
    have hcl := hv.cell
    have hBw : B < W.heap.size := hWB.hi B hWB.own
    clear hdel hrow' hrow hv hK hBW hWB hnb hzs hn ez hall hx hpre
    gi_wp2
    with_reducible refine (callsIn_wide.2 HDel.out).mono ?_
    rintro e w4 ⟨rfl, hwb4, hch4⟩
    have hW2lt := HBW.out.size
    have c0 := hwb4.c0
    have f0 := hwb4.wc.fr 0
    have cb4 : w4.cell? ⟨w.heap.size, 0, none⟩ = some (.int .u64 now') := (hch4.cell (p := ⟨w.heap.size, 0, none⟩) (by show w.heap.size < _; omega) (fun e => by have := HSlt.out _ e; simp at this)).trans hcb
    have cl4 : w4.cell? ⟨W2.heap.size, 0, none⟩ = some (.slice a n cap) := (hch4.cell (p := ⟨W2.heap.size, 0, none⟩) (cell_lt hcl) (fun e => by have h1 := HSlt.out _ e; simp only at h1; omega)).trans hcl
    have HW4 := Lib.hid hwb4
    have HC4 := Lib.hid hch4
    clear hwb4 hch4 hcl hcb
    go_frame
    gi_wp2
    have hD4 : (w4.setCell ⟨B, 0, none⟩ (.int .u64 now')).heap[D]? = some (.deferred (some [])) := (KeepsOthers.setCell w4 ⟨B, 0, none⟩ (.int .u64 now')).same D _ ((HC4.out.block D (Array.getElem?_eq_some_iff.1 HK.out).1 (fun e => by have h1 := HSlt.out _ e; have h2 := HDs.out; omega)).trans HK.out) rfl
    refine ⟨by simp, .inl ⟨_, _, rfl, run_takeDeferred hD4, ?_⟩⟩
    have hcw : ChP S w (w4.setCell ⟨B, 0, none⟩ (.int .u64 now')) := ((ChP.quiet (HAl.out.trans (.of_below HBW.out))).trans HC4.out).setCell (p := ⟨B, 0, none⟩) (.inl HW.out.own) _
    have hrow5 : (w4.setCell ⟨B, 0, none⟩ (.int .u64 now')).ownsRow W2.heap.size 3 1 (.slice a n cap) n (zs.map iv) := by
      have hns : ∀ g, (Value.slice a n cap).ownBlock = some g → ¬ S g := fun g hg e => by
        have h1 := (HRow'.out.lt g hg).1
        have h2 := HSlt.out g e
        omega
      exact own_chP (own_chP HRow'.out HC4.out hns) (chB w4 0 _) (fun g hg e => hns g hg (e ▸ HW.out.own))
    refine ⟨.slice a n cap, ?_, _, rfl, own_mono (ownsRow_putObj hrow5 (.deferred none) hD4 rfl) (by omega), ⟨HW.out.wi.later HNw.out (by have := HLt.out; omega), ?_, fun k hk => ?_⟩, hcw.fresh (chP_putObj _ D (.deferred none)) (fun k e => .inr (by have := HDs.out; omega))⟩
    · simp [results, Tryz.f34, go_sem]
    · exact (HW4.out.wc.set0 now').frame (chP_putObj _ D (.deferred none)) (fun k _ hk e => by have h1 := HSlt.out _ hk; have h2 := HDs.out; omega)
    · have h1 := HSlt.out k hk
      have h2 := hcw.size
      have h3 : (World.putObj (w4.setCell ⟨B, 0, none⟩ (.int .u64 now')) D (.deferred none)).heap.size = (w4.setCell ⟨B, 0, none⟩ (.int .u64 now')).heap.size := by simp [World.putObj]
      rw [h3]
      omega
end Go.Proofs.YtnndofeomakpiaaGreatDoor
namespace Go.Proofs.YtnndofeomakpiaaGreatDoor
open Go.RowKit Go.Maps

attribute [local go_sem] Oper.semAt_some

/-- A wheel that was made since w0; of what there was then nothing turned. -/
structure WK (w0 w : World) (B : Nat) (now : Int) (puts : Nat) (L : List Tm) : Prop where
  wb : ∃ S, WB w w0.heap.size B S now puts L
  bel : Below w0.heap.size w0 w
theorem tab_lt {w : World} (h : Mk.Tab w) : 0 < w.heap.size := cell_lt (h 0 (by decide))
section
variable {w0 w w' : World} {B : Nat} {now : Int} {puts : Nat} {L : List Tm}
theorem WK.wi (h : WK w0 w B now puts L) : WI now puts L := by obtain ⟨S, h⟩ := h.wb; exact h.wi
theorem WK.tab (h : WK w0 w B now puts L) (hT : Mk.Tab w0) : Mk.Tab w := hT.below h.bel (tab_lt hT)
theorem WK.quiet (h : WK w0 w B now puts L) (hc : Ch [] w w') : WK w0 w' B now puts L := by
  obtain ⟨S, h1⟩ := h.wb
  exact ⟨⟨S, h1.quiet hc⟩, h.bel.trans (hc.below _ (fun k hk => by simp at hk) h.bel.size)⟩
theorem WK.below (h : WK w0 w B now puts L) (hc : Below w.heap.size w w') : WK w0 w' B now puts L := h.quiet (.of_below hc)
theorem wk_new (h : Wd now) (hb : Below w0.heap.size w0 w) (S : Nat) (hS : w.heap.size = S) :
    Calls Tryz.prog 24 #[.int .u64 now] w fun e w' => e = .returned (.pointer (some ⟨S, 0, none⟩)) ∧ WK w0 w' S now 0 [] ∧ w'.heap.size = S + 1 :=
  (new_any h w hb.size S hS).mono fun _ _ ⟨he, hw, hc, hs⟩ => ⟨he, ⟨⟨_, hw⟩, hb.trans (hc.below _ (fun k hk => by simp at hk) hb.size)⟩, hs⟩
theorem WK.put (h : WK w0 w B now puts L) {id : Int} (h0 : 0 ≤ id) (h1 : id < 256) (hno : ∀ t ∈ L, t.id ≠ id) {at' : Int} (ha : Wd at') (hm : now ≠ 18446744073709551615) (hp : puts < 4611686018427387904) :
    Calls Tryz.prog 28 #[.pointer (some ⟨B, 0, none⟩), .int .i64 id, .int .u64 at'] w fun e w' => e = .returned (.tuple #[spV (placeV now at'), .int .i64 0]) ∧ WK w0 w' B now (puts + 1) (L ++ [⟨id, placeV now at', puts⟩]) := by
  obtain ⟨S, hw⟩ := h.wb
  exact (put_ok hw h0 h1 hno ha hm hp).mono fun _ _ ⟨he, hw', hc⟩ => ⟨he, ⟨_, hw'⟩, h.bel.trans (hc.below _ hw.wc.lo h.bel.size)⟩
theorem WK.twice (h : WK w0 w B now puts L) {id : Int} (h0 : 0 ≤ id) (h1 : id < 256) (hin : ∃ t ∈ L, t.id = id) (at' : Int) :
    Calls Tryz.prog 28 #[.pointer (some ⟨B, 0, none⟩), .int .i64 id, .int .u64 at'] w fun e w' => e = .returned (.tuple #[spz, .int .i64 5]) ∧ WK w0 w' B now puts L := by
  obtain ⟨S, hw⟩ := h.wb
  exact (put_twice hw h0 h1 hin at').mono fun _ _ ⟨he, hc⟩ => ⟨he, h.quiet hc⟩
theorem WK.range (h : WK w0 w B now puts L) {id : Int} (hr : id < 0 ∨ 256 ≤ id) (at' : Int) :
    Calls Tryz.prog 28 #[.pointer (some ⟨B, 0, none⟩), .int .i64 id, .int .u64 at'] w fun e w' => e = .returned (.tuple #[spz, .int .i64 2]) ∧ WK w0 w' B now puts L :=
  (put_range hr at' w).mono fun _ _ ⟨he, hc⟩ => ⟨he, h.quiet hc⟩
theorem WK.full (h : WK w0 w B 18446744073709551615 puts L) {id : Int} (h0 : 0 ≤ id) (h1 : id < 256) (hno : ∀ t ∈ L, t.id ≠ id) (at' : Int) :
    Calls Tryz.prog 28 #[.pointer (some ⟨B, 0, none⟩), .int .i64 id, .int .u64 at'] w fun e w' => e = .returned (.tuple #[spz, .int .i64 12]) ∧ WK w0 w' B 18446744073709551615 puts L := by
  obtain ⟨S, hw⟩ := h.wb
  exact (put_max hw h0 h1 hno at').mono fun _ _ ⟨he, hc⟩ => ⟨he, h.quiet hc⟩
/-- To, either way: who comes out, and the tick that it shows then. -/
theorem WK.to (h : WK w0 w B now puts L) (hT : Mk.Tab w0) {x : Int} (hx : Wd x) :
    Calls Tryz.prog 34 #[.pointer (some ⟨B, 0, none⟩), .int .u64 x] w fun e w' =>
      ∃ v, e = .returned v ∧ w'.ownsRow w.heap.size 3 1 v (outs L x).length ((outs L x).map iv) ∧ WK w0 w' B (max now x) puts (later L x) := by
  obtain ⟨S, hw⟩ := h.wb
  rcases Int.lt_or_le now x with hlt | hle
  · refine (to_any hw (h.tab hT) hx hlt).mono fun _ _ ⟨v, he, hr, hw', hc⟩ => ⟨v, he, hr, ?_⟩
    rw [show max now x = x by omega]
    exact ⟨⟨_, hw'⟩, h.bel.trans (hc.below _ hw.wc.lo h.bel.size)⟩
  · refine (to_less hw hle).mono fun _ _ ⟨he, hc⟩ => ⟨_, he, ?_, ?_⟩
    · rw [outs_nil (fun t ht => by have := (hw.wi.fits t ht).ahead; omega)]
      exact World.ownsRow_nil _ _ _ _
    · rw [later_all (fun t ht => by have := (hw.wi.fits t ht).ahead; omega), show max now x = now by omega]
      exact h.quiet hc
theorem WK.next (h : WK w0 w B now puts L) (hT : Mk.Tab w0) :
    Calls Tryz.prog 45 #[.pointer (some ⟨B, 0, none⟩)] w fun e w' => e = .returned (.tuple #[.int .u64 (nextD (DL L)), .bool (nextO (DL L))]) ∧ WK w0 w' B now puts L := by
  obtain ⟨S, hw⟩ := h.wb
  exact (wnext_any hw (h.tab hT)).mono fun _ _ ⟨he, hc⟩ => ⟨he, h.quiet hc⟩
theorem WK.find (h : WK w0 w B now puts L) {k : Int} (hk : wf64 k) :
    Calls Tryz.prog 38 #[.pointer (some ⟨B, 0, none⟩), .int .i64 k] w fun e w' => e = .returned (.tuple #[spV (findS L k), .bool (lookB L k)]) ∧ WK w0 w' B now puts L ∧ Ch [] w w' := by
  obtain ⟨S, hw⟩ := h.wb
  exact (find_any hw hk).mono fun _ _ ⟨he, hc⟩ => ⟨he, h.quiet hc, hc⟩
theorem WK.nowOf (h : WK w0 w B now puts L) : Calls Tryz.prog 40 #[.pointer (some ⟨B, 0, none⟩)] w fun e w' => e = .returned (.int .u64 now) ∧ w' = w := by
  obtain ⟨S, hw⟩ := h.wb
  exact now_any hw
theorem WK.lenOf (h : WK w0 w B now puts L) : Calls Tryz.prog 46 #[.pointer (some ⟨B, 0, none⟩)] w fun e w' => e = .returned (.int .i64 (L.length : Int)) ∧ w' = w := by
  obtain ⟨S, hw⟩ := h.wb
  exact len_any hw
end

/-! ### A nil wheel -/

theorem nil_put (id at' : Int) (w : World) :
    Calls Tryz.prog 28 #[.pointer none, .int .i64 id, .int .u64 at'] w fun e w' => e = .returned (.tuple #[spz, .int .i64 6]) ∧ Ch [] w w' := by
  obtain ⟨k0, k1, k2, k3⟩ := four_spz w
  go_enter Tryz.func28, Tryz.ntmps28
  go_wp2
  refine bodyPost_ret (v := .tuple #[.agg #[.int .i64 0, .int .i64 0, .int .u64 0, .int .u64 0], .int .i64 6]) ?_ rfl ?_
  · simp [results, Tryz.f28, go_sem, k0, k1, k2, k3]
  · exact ⟨rfl, (Ch.refl [] w).alloc _⟩
theorem nil_find (id : Int) (w : World) :
    Calls Tryz.prog 38 #[.pointer none, .int .i64 id] w fun e w' => e = .returned (.tuple #[spz, .bool false]) ∧ Ch [] w w' := by
  obtain ⟨k0, k1, k2, k3⟩ := four_spz w
  go_enter Tryz.func38, Tryz.ntmps38
  go_wp2
  refine bodyPost_ret (v := .tuple #[.agg #[.int .i64 0, .int .i64 0, .int .u64 0, .int .u64 0], .bool false]) ?_ rfl ?_
  · simp [results, Tryz.f38, go_sem, k0, k1, k2, k3]
  · exact ⟨rfl, (Ch.refl [] w).alloc _⟩
theorem nil_del (a : Option Addr) (len cap : Nat) (w : World) :
    Calls Tryz.prog 32 #[.pointer none, .slice a len cap] w fun e w' => e = .returned (.int .i64 0) ∧ w' = w := by
  go_enter Tryz.func32, Tryz.ntmps32
  go_wp2
  go_ret
  exact ⟨rfl, rfl⟩
theorem nil_now (w : World) : Calls Tryz.prog 40 #[.pointer none] w fun e w' => e = .returned (.int .u64 0) ∧ w' = w := by
  go_enter Tryz.func40, Tryz.ntmps40
  go_wp2
  go_ret
  exact ⟨rfl, rfl⟩
theorem nil_len (w : World) : Calls Tryz.prog 46 #[.pointer none] w fun e w' => e = .returned (.int .i64 0) ∧ w' = w := by
  go_enter Tryz.func46, Tryz.ntmps46
  go_wp2
  go_ret
  exact ⟨rfl, rfl⟩
theorem nil_to (x : Int) (w : World) : Calls Tryz.prog 34 #[.pointer none, .int .u64 x] w fun e w' => e = .returned (.slice none 0 0) ∧ Ch [] w w' := by
  have cb := (cell_new w (.int .u64 x) 22).1
  go_enter Tryz.func34, Tryz.ntmps34
  go_wp2_with fail
  go_quiet (fail)
  go_wp2_with fail
  go_ret
  exact ⟨rfl, ((Ch.refl [] w).alloc _).drewN _⟩
theorem nil_next (w : World) : Calls Tryz.prog 45 #[.pointer none] w fun e w' => e = .returned (.tuple #[.int .u64 0, .bool false]) ∧ Ch [] w w' := by
  have k0 := ((BoxV.new w (.int .u64 0) 22).al (.cells #[.bool false] 4)).1
  have k1 := (BoxV.new (w.alloc (.cells #[.int .u64 0] 22)) (.bool false) 4).1
  rw [World.size_alloc] at k1
  go_enter Tryz.func45, Tryz.ntmps45
  go_wp2_with fail
  refine bodyPost_ret (v := .tuple #[.int .u64 0, .bool false]) ?_ rfl ?_
  · simp [results, Tryz.f45, go_sem, k0, k1]
  · exact ⟨rfl, ((Ch.refl [] w).alloc _).alloc _⟩
end Go.Proofs.YtnndofeomakpiaaGreatDoor
namespace Go.Proofs.YtnndofeomakpiaaGreatDoor
open Go.RowKit Go.Maps

attribute [local go_sem] Oper.semAt_some

theorem ints_lit (w : World) (zs : List Int) (t : TypeId) : Mk.IntsAt (w.alloc (.cells (zs.map (Value.int .i64)).toArray t)) (some ⟨w.heap.size, 0, none⟩) zs := by
  refine .inr ⟨w.heap.size, 0, rfl, fun i hi => ?_⟩
  rw [World.cell?_alloc_at _ _ _ _ rfl]
  simp [hi]
theorem p100 : placeV 0 100 = ⟨1, 13, 100, 104⟩ := by kernel_rfl
theorem p9 : placeV 0 9 = ⟨0, 9, 9, 9⟩ := by kernel_rfl
theorem p5 : placeV 0 5 = ⟨0, 5, 5, 5⟩ := by kernel_rfl
def kL : List Tm := [⟨3, ⟨1, 13, 100, 104⟩, 0⟩]
def kX : List Tm := [⟨1, ⟨0, 9, 9, 9⟩, 0⟩, ⟨2, ⟨0, 5, 5, 5⟩, 1⟩, ⟨3, ⟨0, 9, 9, 9⟩, 2⟩]
theorem kL_103 : outs kL 103 = [] ∧ later kL 103 = kL := ⟨outs_nil (by decide), later_all (by decide)⟩
theorem kL_104 : outs kL 104 = [3] := by
  unfold outs
  rw [show upto kL 104 = kL by kernel_rfl, DL_one (L := kL) (by simp [kL, Rising]) (d := 104) (by decide)]
  rfl
theorem kX_20 : outs kX 20 = [2, 1, 3] := by
  unfold outs
  rw [show upto kX 20 = kX by kernel_rfl, ← DL_only (L := kX) (xs := [⟨2, ⟨0, 5, 5, 5⟩, 1⟩, ⟨1, ⟨0, 9, 9, 9⟩, 0⟩, ⟨3, ⟨0, 9, 9, 9⟩, 2⟩]) (by simp [kX, Rising]) (List.Perm.swap _ _ _) (by simp [dueLt])]
  rfl
end Go.Proofs.YtnndofeomakpiaaGreatDoor
namespace Go.Proofs.YtnndofeomakpiaaGreatDoor
open Go.ChangeShapes Go.WideShapes Go.ChangeAt Go.RowKit

theorem gTab : Tryz.prog.globalNamed "math/bits.deBruijn64tab" = some 0 := by kernel_rfl
theorem gTabType : (Tryz.prog.globals[0]?).map (·.type) = some 168 := by kernel_rfl
theorem cellsTab : Tryz.prog.cellsOf 168 = 64 := by kernel_rfl
theorem cellsByte : Tryz.prog.cellsOf 5 = 1 := by kernel_rfl

def tabInts : List Int := [0, 1, 56, 2, 57, 49, 28, 3, 61, 58, 42, 50, 38, 29, 17, 4, 62, 47, 59, 36, 45, 43, 51, 22, 53, 39, 33, 30, 24, 18, 12, 5,
  63, 55, 48, 27, 60, 41, 37, 16, 46, 35, 44, 21, 52, 32, 23, 11, 54, 26, 40, 15, 34, 20, 31, 10, 25, 14, 19, 9, 13, 8, 7, 6]

def laidTab {H : Type} : List (String × DataW H) := [("math/bits.deBruijn64tab", Rows.laid_math_bits_deBruijn64tab)]

theorem table {W : World} (h : laidMetH Tryz.prog laidTab W) : Lib.TabIs Tryz.prog W "math/bits.deBruijn64tab" .u8 tabInts :=
  Lib.tabIs_of_head (rest := []) gTab gTabType Tryz.underlying168 Tryz.underlying5 cellsByte cellsTab h

theorem tabInts_at : ∀ j, j < 64 → tabInts.getD j 0 = ((Lib.deBruijn64tab.getD j 0 : Nat) : Int) := by decide +kernel

theorem tab_of_laid {W : World} (h : laidMetH Tryz.prog laidTab W) : Mk.Tab W := fun j hj => by
  have hc := (table h).cell gTab j (by simpa [tabInts] using hj)
  rw [tabInts_at j hj] at hc
  exact hc

/-- A WORLD FOR THE WITNESS: the settled one, the table holding what its initialiser lays. -/
noncomputable def laidWorld (os : Os) : World :=
  { World.holding Tryz.prog os ⟨#[], #[], []⟩ with heap := (World.holding Tryz.prog os ⟨#[], #[], []⟩).heap.modify 0 fun
      | .cells _ t frozen => .cells (tabInts.map (Value.int .u8)).toArray t frozen
      | o => o }

theorem u64_bounds {a : Int} (h : (Lit.int .u64 a).wf = true) : ∃ m : Nat, a = (m : Int) ∧ m < 18446744073709551616 := by
  have h2 : 0 ≤ a ∧ a ≤ 18446744073709551615 := by simpa [Lit.wf, IntKind.min, IntKind.max, IntKind.signed, IntKind.bits] using h
  exact ⟨a.toNat, by omega, by omega⟩


/-- Words that came in, or that were handed on. -/
structure WordsAt (w : World) (a : Option Addr) (len : Nat) (z : Nat → Int) : Prop where
  wd : ∀ i, Wd (z i)
  at' : len = 0 ∨ ∃ b off, a = some ⟨b, off, none⟩ ∧ ∀ i, i < len → w.cell? ⟨b, off + i, none⟩ = some (.int .u64 (z i))
theorem WordsAt.ch {S : List Nat} {w w' : World} {a : Option Addr} {len : Nat} {z : Nat → Int} (h : WordsAt w a len z) (hc : Ch S w w') (hn : len = 0 ∨ ∀ x, a = some x → x.block ∉ S) : WordsAt w' a len z := by
  refine ⟨h.wd, ?_⟩
  rcases h.at' with h0 | ⟨b, off, rfl, h1⟩
  · exact .inl h0
  · rcases hn with h0 | hn
    · exact .inl h0
    · exact .inr ⟨b, off, rfl, fun i hi => (hc.cell (p := ⟨b, off + i, none⟩) (cell_lt (h1 i hi)) (hn ⟨b, off, Option.none⟩ rfl)).trans (h1 i hi)⟩
theorem WordsAt.take {w : World} {a : Option Addr} {len : Nat} {z : Nat → Int} (h : WordsAt w a len z) (k : Nat) (hk : k ≤ len) : WordsAt w a k z := by
  refine ⟨h.wd, ?_⟩
  rcases h.at' with h0 | ⟨b, off, rfl, h1⟩
  · exact .inl (by omega)
  · exact .inr ⟨b, off, rfl, fun i hi => h1 i (by omega)⟩
theorem words_none (w : World) : WordsAt w none 0 (fun _ => 0) := ⟨fun _ => ⟨by decide, by decide⟩, .inl rfl⟩
theorem WordsAt.one {w : World} {g : Nat} {x : Int} (hx : Wd x) (hc : w.cell? ⟨g, 0, none⟩ = some (.int .u64 x)) : WordsAt w (some ⟨g, 0, none⟩) 1 (fun _ => x) :=
  ⟨fun _ => hx, .inr ⟨g, 0, rfl, fun i hi => by cases (show i = 0 by omega); exact hc⟩⟩
theorem WordsAt.lt {w : World} {a : Option Addr} {len : Nat} {z : Nat → Int} (h : WordsAt w a len z) : len = 0 ∨ ∀ x, a = some x → x.block < w.heap.size := by
  rcases h.at' with h0 | ⟨b, off, rfl, h1⟩
  · exact .inl h0
  · by_cases h0 : len = 0
    · exact .inl h0
    · exact .inr fun x hx => by cases hx; exact cell_lt (h1 0 (by omega))

theorem wd_of {a : Int} (h : (Lit.int .u64 a).wf = true) : Wd a := by
  have h2 : 0 ≤ a ∧ a ≤ 18446744073709551615 := by simpa [Lit.wf, IntKind.min, IntKind.max, IntKind.signed, IntKind.bits] using h
  exact ⟨h2.1, h2.2⟩

end Go.Proofs.YtnndofeomakpiaaGreatDoor

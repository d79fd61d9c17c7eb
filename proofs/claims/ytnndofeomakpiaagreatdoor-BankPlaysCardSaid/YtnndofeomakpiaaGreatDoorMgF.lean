/-
  Out of a wheel: lists, masks, the map, a slot's row behind slices.DeleteFunc.
  drop: one timer less.
  Del.
-/
import Derived.Test.YtnndofeomakpiaaGreatDoorMgE
import Derived.Test.YtnndofeomakpiaaGreatDoorShelf
import Derived.Sort.OwnSortedInts
import Derived.Test.YtnndofeomakpiaaGreatDoorMgB
namespace Go.Proofs.YtnndofeomakpiaaGreatDoor
open Go.RowKit Go.Maps Go.Sort

theorem inSlot_less (L : List Tm) (k : Int) (i : Nat) : inSlot (less L k) i = (inSlot L i).filter fun x => !decide (x = k) := by
  unfold inSlot less
  rw [List.filter_filter, List.filter_map, List.filter_filter]
  congr 1
  apply List.filter_congr
  intro t _
  simp only [Function.comp, decide_not]
  exact Bool.and_comm _ _
theorem inSlot_mem {L : List Tm} {i : Nat} {x : Int} : x ∈ inSlot L i ↔ ∃ t ∈ L, (t.sp.lv : Int) * 64 + t.sp.sl = (i : Int) ∧ t.id = x := by
  unfold inSlot
  simp [List.mem_map, List.mem_filter, and_assoc]
theorem same_id {L : List Tm} (hnd : (L.map (·.id)).Nodup) {t u : Tm} (ht : t ∈ L) (hu : u ∈ L) (e : u.id = t.id) : u = t := by
  have h1 := find_in hnd hu
  have h2 := find_in hnd ht
  rw [e, h2] at h1
  cases h1
  rfl
theorem inSlot_less_other {L : List Tm} (hnd : (L.map (·.id)).Nodup) {t : Tm} (ht : t ∈ L) {j : Nat} (hj : (t.sp.lv : Int) * 64 + t.sp.sl ≠ (j : Int)) : inSlot (less L t.id) j = inSlot L j := by
  rw [inSlot_less, List.filter_eq_self]
  intro x hx
  obtain ⟨u, hu, h1, rfl⟩ := inSlot_mem.1 hx
  have : u.id ≠ t.id := fun e => hj (by rw [← same_id hnd ht hu e]; exact h1)
  simpa using this
section
variable {now : Int} {puts : Nat} {L : List Tm} {M : Nat → Nat}
theorem WI.less (h : WI now puts L) (k : Int) : WI now puts (less L k) :=
  ⟨h.wd, h.rise.filter _, fun t ht => h.lt t (less_mem.1 ht).1, fun t ht => h.fits t (less_mem.1 ht).1, (List.Sublist.map _ List.filter_sublist).nodup h.nd, fun t ht => h.ids t (less_mem.1 ht).1⟩
theorem MB.less_keep (hM : MB M L) (h : WI now puts L) {t : Tm} (ht : t ∈ L) {i : Nat} (hi : (t.sp.lv : Int) * 64 + t.sp.sl = (i : Int)) (hne : inSlot (less L t.id) i ≠ []) : MB M (less L t.id) := by
  intro n hn
  refine ⟨(hM n hn).1, fun j hj => ?_⟩
  rw [(hM n hn).2 j hj]
  constructor
  · rintro ⟨u, hu, h1, h2⟩
    by_cases e : u.id = t.id
    · obtain rfl := same_id h.nd ht hu e
      obtain ⟨x, hx⟩ := List.exists_mem_of_ne_nil _ hne
      obtain ⟨v, hv, e1, _⟩ := inSlot_mem.1 hx
      have f1 := (h.fits v (less_mem.1 hv).1).sl
      have f2 := (h.fits u hu).sl
      exact ⟨v, hv, by omega, by omega⟩
    · exact ⟨u, less_mem.2 ⟨hu, e⟩, h1, h2⟩
  · rintro ⟨u, hu, h1, h2⟩
    exact ⟨u, (less_mem.1 hu).1, h1, h2⟩
theorem MB.less_drop (hM : MB M L) (h : WI now puts L) {t : Tm} (ht : t ∈ L) {i : Nat} (hi : (t.sp.lv : Int) * 64 + t.sp.sl = (i : Int)) (he : inSlot (less L t.id) i = []) : MB (updM M t.sp.lv (Mk.withoutN (M t.sp.lv) [t.sp.sl])) (less L t.id) := by
  intro n hn
  have hs := (h.fits t ht).sl
  unfold updM
  by_cases e : n = t.sp.lv
  · rw [if_pos e]
    subst e
    refine ⟨Mk.withoutN_lt _ _ (hM _ hn).1, fun j hj => ?_⟩
    rw [without_bit hs.1 hs.2 hj, (hM _ hn).2 j hj]
    constructor
    · rintro ⟨⟨u, hu, h1, h2⟩, h3⟩
      exact ⟨u, less_mem.2 ⟨hu, fun e => h3 (by rw [← h2, same_id h.nd ht hu e])⟩, h1, h2⟩
    · rintro ⟨u, hu, h1, h2⟩
      refine ⟨⟨u, (less_mem.1 hu).1, h1, h2⟩, fun e3 => ?_⟩
      have : u.id ∈ inSlot (less L t.id) i := inSlot_mem.2 ⟨u, hu, by rw [← hi, h1, h2, e3], rfl⟩
      rw [he] at this
      cases this
  · rw [if_neg e]
    refine ⟨(hM n hn).1, fun j hj => ?_⟩
    rw [(hM n hn).2 j hj]
    constructor
    · rintro ⟨u, hu, h1, h2⟩
      exact ⟨u, less_mem.2 ⟨hu, fun e3 => e (by rw [← h1, same_id h.nd ht hu e3])⟩, h1, h2⟩
    · rintro ⟨u, hu, h1, h2⟩
      exact ⟨u, (less_mem.1 hu).1, h1, h2⟩
end
theorem ownsMap_tight {H : Type} {P : Program} {k : TypeId} {R : Value → Option (DataW H × List MemPlace)} {w : World} {b n m : Nat} {D : DataW H} (h : w.ownsMap P k R b n D) (hm : Maps.size D ≤ m) : w.ownsMap P k R b m D := by
  obtain ⟨es, clock, hb, F, _, rfl⟩ := h
  exact ⟨es, clock, hb, F, by simpa [Maps.size, length_sorted] using hm, rfl⟩
/-- Behind slices.DeleteFunc the slice, cut, owns what is kept. -/
theorem ownsRow_struck {w : World} {base g cap q : Nat} {e : TypeId} {cur : Array Value} {ts : List Int} {n z : Nat} (hl : ts.length + z = n) (hbase : base ≤ g) (hb : w.heap[g]? = some (.cells cur e (0, 0))) (h1 : n ≤ cap) (h2 : cap ≤ maxLen) (h3 : cur.size = cap * 1) :
    (putRow (Value.int .i64) (Sort.ahead w q) g 0 (ts ++ List.replicate z 0).toArray).ownsRow base e 1 (.slice (some ⟨g, 0, none⟩) ts.length cap) ts.length (ts.map iv) ∧ ChP (fun k => k = g) w (putRow (Value.int .i64) (Sort.ahead w q) g 0 (ts ++ List.replicate z 0).toArray) := by
  have hh := heap_sortedI (n := q) (os := #[]) (ts ++ List.replicate z 0).toArray hb
  have hg := grownBy_sortedI (w := w) (g := g) (n := q) (os := #[]) (ts ++ List.replicate z 0).toArray
  rw [grow_empty] at hh hg
  refine ⟨⟨by simp, .inr ⟨g, cap, _, rfl, hbase, hh, by omega, h2, by simp [putCells, h3], ?_⟩⟩, .grown hg (fun r e => by cases e; rfl)⟩
  have := take_putCellsI cur (ts ++ List.replicate z 0) (by simp; omega)
  have h4 := congrArg (List.take ts.length) this
  rw [List.take_take, show min ts.length (ts ++ List.replicate z (0 : Int)).length = ts.length by simp, ← List.map_take, List.take_left] at h4
  rw [Nat.mul_one]
  exact h4
theorem gives_drop1 (id x : Int) (B : Nat) (W : World) (hc : W.cell? ⟨B, 0, none⟩ = some (.int .i64 id)) :
    FnGives Tryz.prog 68 #[.pointer (some ⟨B, 0, none⟩)] #[.int .i64 x] (.bool (decide (x = id))) W := by
  show Calls Tryz.prog 68 #[.int .i64 x, .pointer (some ⟨B, 0, none⟩)] W _
  go_enter Tryz.func68, Tryz.ntmps68
  go_wp2_with fail
  go_ret
  exact ⟨by rw [show (x == id) = decide (x = id) by rw [Bool.eq_iff_iff]; simp]; rfl, 0, rfl⟩
theorem pred_drop1 (id : Int) (B : Nat) (w : World) (hB : B < w.heap.size) (hc : w.cell? ⟨B, 0, none⟩ = some (.int .i64 id)) :
    PredAt Tryz.prog 68 #[.pointer (some ⟨B, 0, none⟩)] (Value.int .i64) (fun x => decide (x = id)) w :=
  fun W x hb => gives_drop1 id x B W ((hb.cell (p := ⟨B, 0, none⟩) hB).trans hc)
theorem over_drop1 (id : Int) (B blk off size : Nat) (w : World) (hB : B < w.heap.size) (hne : B ≠ blk) (hc : w.cell? ⟨B, 0, none⟩ = some (.int .i64 id)) :
    PredOver Tryz.prog 68 #[.pointer (some ⟨B, 0, none⟩)] (Value.int .i64) (fun x => decide (x = id)) blk off size w :=
  fun n os dk x _ => gives_drop1 id x B _ (by
    unfold sortWorld
    rw [cell?_grow _ _ _ (by show B < (putRow _ _ _ _ _).heap.size; rw [size_putRow]; exact hB), cell?_putRow_other _ _ blk off _ _ (Or.inl hne)]
    exact hc)
/-- slices.DeleteFunc over a slot's row. -/
theorem strike_any {w : World} {base : Nat} {v : Value} {xs : List Int} (hown : w.ownsRow base 3 1 v xs.length (xs.map iv)) (hx : xs ≠ []) {id : Int} {Bx : Nat} (hB : Bx < w.heap.size) (hc : w.cell? ⟨Bx, 0, none⟩ = some (.int .i64 id)) (hne : v.ownBlock ≠ some Bx) :
    ∃ g cap, v = .slice (some ⟨g, 0, none⟩) xs.length cap ∧ Calls Tryz.prog 67 #[v, .func (.func 68) #[] #[.pointer (some ⟨Bx, 0, none⟩)]] w fun e w' => e = .returned (.slice (some ⟨g, 0, none⟩) (xs.filter fun x => !decide (x = id)).length cap) ∧
      w'.ownsRow base 3 1 (.slice (some ⟨g, 0, none⟩) (xs.filter fun x => !decide (x = id)).length cap) (xs.filter fun x => !decide (x = id)).length ((xs.filter fun x => !decide (x = id)).map iv) ∧ ChP (fun k => k = g) w w' := by
  rcases hown.2 with ⟨_, h0⟩ | ⟨g, cap, cur, rfl, hbase, hg, h1, h2, h3, h4⟩
  · exact absurd (List.length_eq_zero_iff.1 h0) hx
  refine ⟨g, cap, rfl, ?_⟩
  have hlt : g < w.heap.size := (Array.getElem?_eq_some_iff.1 hg).1
  have hn : Bx ≠ g := fun e => hne (by rw [e]; rfl)
  have hm : cap ≤ 9223372036854775807 := by unfold maxLen at h2; omega
  have eg : ∀ args w, (callFunc 68 args).run Tryz.prog w = .ok (.enter 68 args) w := enters_of Tryz.func68 (by kernel_rfl) rfl
  have hcon := AnyE.slices_DeleteFunc Tryz.laysSlH10_f67 (Value.int .i64) (fun _ => rfl) (fun x => decide (x = id)) 68 #[.pointer (some ⟨Bx, 0, none⟩)] eg 0 Tryz.zeroValue3 g 0 cap xs.toArray w
    (pred_drop1 id Bx w hB hc) (over_drop1 id Bx g 0 _ w hB hn hc) (holds_of_blockI hg (by rw [Nat.mul_one] at h4; exact h4)) (by simp; omega) (by simpa using h1)
  simp only [List.size_toArray] at hcon
  refine hcon.mono ?_
  rintro e w' ⟨rfl, q, rfl⟩
  have hle := List.length_filter_le (fun x => !decide (x = id)) xs
  obtain ⟨r1, r2⟩ := ownsRow_struck (q := q) (ts := xs.filter fun x => !decide (x = id)) (n := xs.length) (z := xs.length - (xs.filter fun x => !decide (x = id)).length) (by omega) hbase hg h1 h2 h3
  exact ⟨rfl, r1, r2⟩
end Go.Proofs.YtnndofeomakpiaaGreatDoor
namespace Go.Proofs.YtnndofeomakpiaaGreatDoor
open Go.RowKit Go.Maps Go.Sort

attribute [local go_sem] Oper.semAt_some

theorem WC.masksKeep {w : World} {base B : Nat} {S : Nat → Prop} {now : Int} {puts : Nat} {Lm Ls Lk L : List Tm} (h : WC w base B S now puts Lm Ls Lk) (hM : ∀ M, MB M Lk → MB M L) : WC w base B S now puts Lm Ls L := by
  obtain ⟨M, h3, h4⟩ := h.masks
  exact ⟨h.c0, h.c1, h.fr, h.slots, ⟨M, h3, hM M h4⟩, h.held, h.own, h.lo⟩

set_option maxRecDepth 100000 in
set_option maxHeartbeats 4000000 in
theorem drop_any {w : World} {base B : Nat} {S : Nat → Prop} {now : Int} {puts : Nat} {L : List Tm} (h : WB w base B S now puts L) {t : Tm} (ht : t ∈ L) :
    Calls Tryz.prog 54 #[.pointer (some ⟨B, 0, none⟩), .int .i64 t.id, spV t.sp] w fun e w' => e = .returned (.tuple #[]) ∧ WB w' base B S now puts (less L t.id) ∧ ChP S w w' := by
  have HWI := Lib.hid h.wi
  have HT := Lib.hid ht
  have hf := h.wi.fits t ht
  have hB := h.hi B h.own
  have HHi := Lib.hid h.hi
  obtain ⟨id, ⟨lv, sl0, at', due⟩, put⟩ := t
  have hsl := hf.sl
  have hlv := hf.lv
  obtain ⟨σ, hσ⟩ := Int.eq_ofNat_of_zero_le hsl.1
  simp only [] at hσ hsl hlv
  subst hσ
  have hs64 : σ < 64 := by omega
  obtain ⟨X, hX⟩ : ∃ X : Obj, X = .cells #[.int .i64 id] 3 := ⟨_, rfl⟩
  obtain ⟨Y, hY⟩ : ∃ Y : Obj, Y = .cells #[.int .i64 (lv : Int), .int .i64 (σ : Int), .int .u64 at', .int .u64 due] 40 := ⟨_, rfl⟩
  obtain ⟨W0, hW0⟩ : ∃ W0, W0 = (w.alloc X).alloc Y := ⟨_, rfl⟩
  have hc0 : ChP (fun _ => False) w W0 := by rw [hW0]; exact ((ChP.refl _ w).alloc _).alloc _
  have hF : Four W0 (w.heap.size + 1) (.int .i64 (lv : Int)) (.int .i64 (σ : Int)) (.int .u64 at') (.int .u64 due) := by
    have := Four.new (w.alloc X) (.int .i64 (lv : Int)) (.int .i64 (σ : Int)) (.int .u64 at') (.int .u64 due) 40
    rw [← hY, ← hW0, World.size_alloc] at this
    exact this
  have hi0 : W0.cell? ⟨w.heap.size, 0, none⟩ = some (.int .i64 id) := by
    rw [hW0, World.cell?_alloc_lt _ _ _ (by simp), hX]
    exact (cell_new w _ _).1
  have hsz : W0.heap.size = w.heap.size + 2 := by rw [hW0]; simp
  have hC0 : WC W0 base B S now puts L L L := h.wc.frame hc0 (fun _ _ _ h => h)
  obtain ⟨m, c5, hh, hm⟩ := hC0.held
  rcases hh with ⟨_, e⟩ | ⟨b, D, rfl, ho, hv⟩
  · rw [e] at ht; cases ht
  obtain ⟨hSb, hbB, hbase⟩ := hm b rfl
  have hb2 : b < w.heap.size := HHi.out b hSb
  obtain ⟨w5, hrun, ho5, ht5⟩ := (map_chP ho ((ChP.refl (fun _ => False) W0).drew) (fun h => h)).drop keyed Tryz.underlying102 (key_of (wf_small (h.wi.ids _ ht).1 (h.wi.ids _ ht).2)) 0
  have hv5 := hv.del ht
  have hH5 : HeldAt w5 (some b) (less L id) := .inr ⟨b, _, rfl, ownsMap_tight ho5 (Nat.le_of_eq hv5.sz), hv5⟩
  have hcd : ChP (fun _ => False) W0 W0.drew := (ChP.refl _ W0).drew
  have HC5 := Lib.hid ((hC0.frame hcd (fun _ _ _ h => h)).map c5 hH5 ht5)
  have HB5 := Lib.hid ((hcd.mono (T := fun k => k = b) (fun _ h => h.elim)).trans (chP_turned ht5))
  have g5 : W0.drew.cell? ⟨B, 522, none⟩ = some (.map (some b)) := c5
  have g5' : w5.cell? ⟨B, 522, none⟩ = some (.map (some b)) := (HB5.out.cell (p := ⟨B, 522, none⟩) (by show B < _; omega) (by show ¬ B = b; exact fun e => hbB e.symm)).trans c5
  have gi : W0.drew.cell? ⟨w.heap.size, 0, none⟩ = some (.int .i64 id) := hi0
  have HS5 := Lib.hid (show w5.heap.size ≥ w.heap.size + 2 by have := HB5.out.size; omega)
  have qi : w5.cell? ⟨w.heap.size, 0, none⟩ = some (.int .i64 id) := (HB5.out.cell (p := ⟨w.heap.size, 0, none⟩) (by show w.heap.size < _; omega) (by show ¬ w.heap.size = b; omega)).trans hi0
  have HQc := Lib.hid (fun (o : Nat) => HB5.out.cell (p := ⟨w.heap.size + 1, o, none⟩) (by show w.heap.size + 1 < _; omega) (by show ¬ w.heap.size + 1 = b; omega))
  have q0 := (HQc.out 0).trans hF.c0
  have q1 := (HQc.out 1).trans hF.c1
  have q2 := (HQc.out 2).trans hF.c2
  have q3 := (HQc.out 3).trans hF.c3
  have HCw := Lib.hid (hc0.mono (T := S) (fun _ h => h.elim) |>.trans (HB5.out.mono (T := S) (fun k e => e ▸ hSb)))
  have i0 : (0 : Int) ≤ (lv : Int) := by omega
  have i1 : (lv : Int) < 8 := by omega
  have i2 : (0 : Int) ≤ (σ : Int) := by omega
  have i3 : (σ : Int) < 64 := by omega
  -- the slot's row at w5
  obtain ⟨W7, hW7⟩ : ∃ W7, W7 = w5.drew := ⟨_, rfl⟩
  have hC7 : WC W7 base B S now puts (less L id) L L := hW7 ▸ HC5.out.frame (T := fun _ => False) ((ChP.refl _ w5).drew) (fun _ _ _ h => h)
  have HC7 := Lib.hid hC7
  have HCw7 := Lib.hid (show ChP S w W7 from hW7 ▸ HCw.out.drew)
  obtain ⟨vs, hv1, hv2⟩ := hC7.slots
  have hi : lv * 64 + σ < 512 := by omega
  obtain ⟨hvc, hvr, hvo⟩ := hv1 (lv * 64 + σ) hi
  rw [show 2 + (lv * 64 + σ) = 2 + lv * 64 + σ by omega] at hvc
  have hin : id ∈ inSlot L (lv * 64 + σ) := inSlot_mem.2 ⟨_, ht, by simp only []; omega, rfl⟩
  have hq7 : W7.cell? ⟨w.heap.size, 0, none⟩ = some (.int .i64 id) := by rw [hW7]; exact qi
  rw [show (inSlot L (lv * 64 + σ)).length = ((inSlot L (lv * 64 + σ))).length from rfl] at hvr
  obtain ⟨g, cap, hvg, hstr⟩ := strike_any hvr (List.ne_nil_of_mem hin) (cell_lt hq7) hq7 (fun e => by have := HHi.out _ (hvo _ e).1; simp at this)
  rw [← inSlot_less] at hstr
  rw [hvg] at hvc hvr hvo hstr
  obtain ⟨hSg, hgB⟩ := hvo g rfl
  have HG := Lib.hid (And.intro hSg hgB)
  have HStr := Lib.hid hstr
  have HVc := Lib.hid hvc
  have hfz := hC7.fr (2 + lv * 64 + σ)
  have HQ7 := Lib.hid (show Four W7 (w.heap.size + 1) (.int .i64 (lv : Int)) (.int .i64 (σ : Int)) (.int .u64 at') (.int .u64 due) from hW7 ▸ ⟨q0, q1, q2, q3⟩)
  obtain ⟨nn, hnn⟩ : ∃ nn, nn = (inSlot L (lv * 64 + σ)).length := ⟨_, rfl⟩
  rw [← hnn] at hvc HStr HVc
  obtain ⟨ys, hys⟩ : ∃ ys, ys = inSlot (less L id) (lv * 64 + σ) := ⟨_, rfl⟩
  rw [← hys] at HStr
  have HYs := Lib.hid hys
  -- what stands behind DeleteFunc and the store
  have HFin := Lib.hid (fun (v' : Value) (w8 : World) (hown : w8.ownsRow base 3 1 v' ys.length (ys.map iv)) (hg : ChP (fun k => k = g) W7 w8) (hat : ∀ k, v'.ownBlock = some k → k = g) =>
    show w8.cell? ⟨B, 2 + lv * 64 + σ, none⟩ = some (.slice (some ⟨g, 0, none⟩) nn cap) ∧ w8.frozen? ⟨B, 2 + lv * 64 + σ, none⟩ = false ∧ WC (w8.setCell ⟨B, 2 + lv * 64 + σ, none⟩ v') base B S now puts (less L id) (less L id) L ∧ ChP S W7 (w8.setCell ⟨B, 2 + lv * 64 + σ, none⟩ v') from by
    have hlt : B < W7.heap.size := cell_lt HVc.out
    have hBg : ¬ B = g := fun e => HG.out.2 e.symm
    refine ⟨(hg.cell hlt hBg).trans HVc.out, (hg.frozen (p := ⟨B, 2 + lv * 64 + σ, none⟩) hlt hBg).trans (HC7.out.fr _), ?_, (hg.mono (T := S) (fun k e => e ▸ HG.out.1)).trans ((chB w8 _ v').mono (fun k e => e ▸ HC7.out.own))⟩
    have key := HC7.out.slot hi (v' := v') (L := less L id) (by rw [show 2 + (lv * 64 + σ) = 2 + lv * 64 + σ by omega]; exact HVc.out) (hg.mono (fun k e => by rw [e]; rfl)) (by rw [← HYs.out]; exact hown) (fun k hk => by
      obtain rfl := hat k hk
      exact ⟨HG.out.1, .inl rfl⟩) (fun j hj hne => inSlot_less_other HWI.out.nd HT.out (by simp only []; omega))
    rwa [show 2 + (lv * 64 + σ) = 2 + lv * 64 + σ by omega] at key)
  have HWend := Lib.hid (fun (w' : World) (hc : WC w' base B S now puts (less L id) (less L id) (less L id)) (h2 : ChP S w w') => show WB w' base B S now puts (less L id) from ⟨HWI.out.less id, hc, fun k hk => Nat.lt_of_lt_of_le (HHi.out k hk) h2.size⟩)
  clear hcd hc0 hF hi0 hsz hC0 hv ho hbase hv5 ho5 ht5 hH5 hC7 hv1 hv2 hvr hvo hstr hin hnn hys hSg hgB HC5 HB5 HQc HCw hb2 hf hs64 hvg
  unfold spV
  go_enter Tryz.func54, Tryz.ntmps54
  go_wp2_with fail
  rw [← hX, ← hY, ← hW0]
  clear hX hY hW0
  go_region_held3 (fun w' => w'.cell? ⟨B, 522, none⟩ = some (.map (some b)) ∧ w'.cell? ⟨w.heap.size, 0, none⟩ = some (.int .i64 id)) (go_keep) (fail)
  clear hrun g5 gi c5 g5'
  go_wp2_with fail
  go_region_held3 (fun w' => w'.cell? ⟨w.heap.size + 1, 0, none⟩ = some (.int .i64 (lv : Int)) ∧ w'.cell? ⟨w.heap.size + 1, 1, none⟩ = some (.int .i64 (σ : Int))) (go_keep) (fail)
  rw [← hW7]
  clear hW7 q0 q1 q2 q3 qi
  obtain ⟨m, hmm⟩ : ∃ m, m = ys.length := ⟨_, rfl⟩
  simp only [← hmm] at HStr HFin
  have HMm := Lib.hid hmm
  clear hmm
  by_cases hm0 : m = 0
  · subst hm0
    have hys0 : ys = [] := List.length_eq_zero_iff.1 HMm.out.symm
    have HY0 := Lib.hid hys0
    clear hys0
    go_wp2_with (first
      | (go_at_call 67; refine HStr.out.mono ?_; rintro e w8 ⟨rfl, hown8, hg8⟩; obtain ⟨k1, k2, k3, k4⟩ := HFin.out _ w8 hown8 hg8 (fun k e => by cases e; rfl); have HK3 := Lib.hid k3; have HK4 := Lib.hid k4; have HG8 := Lib.hid hg8; clear k3 k4 hown8 hg8)
      | fail)
    rw [setCell_setCell]
    obtain ⟨_, _, n3, n4⟩ := HFin.out (.slice none 0 0) w8 ⟨by rw [HY0.out]; rfl, .inl ⟨rfl, rfl⟩⟩ HG8.out (by simp [Value.ownBlock])
    have HC9 := Lib.hid n3
    have HX9 := Lib.hid n4
    clear k1 k2 HK3 HK4 HG8 n3 n4 hvc hfz
    generalize w8.setCell ⟨B, 2 + lv * 64 + σ, none⟩ (.slice none 0 0) = W9 at *
    obtain ⟨M, hMc, hMB⟩ := HC9.out.masks
    have hMlt : ∀ n, n < 8 → M n < 18446744073709551616 := fun n hn => (hMB n hn).1
    have HMB := Lib.hid hMB
    have hl7 : w.heap.size + 1 < W7.heap.size := cell_lt HQ7.out.c0
    have hQ9 : W9.rangeAt (w.heap.size + 1) 0 [.int .i64 (lv : Int), .int .i64 (σ : Int), .int .u64 at', .int .u64 due] := by
      have hn : ¬ S (w.heap.size + 1) := fun e => by have := HHi.out _ e; omega
      intro j v hv
      rw [Nat.zero_add]
      refine (HX9.out.cell (p := ⟨w.heap.size + 1, j, none⟩) hl7 hn).trans ?_
      match j, hv with
      | 0, hv => cases hv; exact HQ7.out.c0
      | 1, hv => cases hv; exact HQ7.out.c1
      | 2, hv => cases hv; exact HQ7.out.c2
      | 3, hv => cases hv; exact HQ7.out.c3
    have hM9 : W9.rangeAt B 514 (ml M) := ml_range hMc
    have HWS := Lib.hid (fun (W : World) (q : Nat) (hq : Four W q (.int .i64 (lv : Int)) (.int .i64 (σ : Int)) (.int .u64 at') (.int .u64 due)) => show Calls Tryz.prog 69 #[mv M, .slice (some ⟨q, 0, none⟩) 1 1] W fun e w' => e = .returned (mv (updM M lv (Mk.withoutN (M lv) [(σ : Int)]))) ∧ Ch [] W w' from by
      have := without_spots hMlt (a := some ⟨q, 0, none⟩) (len := 1) (cap := 1) (z := fun _ => ((lv : Int), (σ : Int), at', due)) (w := W) ⟨.inr ⟨q, 0, rfl, fun i hi => by
        obtain rfl : i = 0 := by omega
        exact ⟨hq.c0, hq.c1, hq.c2, hq.c3⟩⟩⟩ (by decide) (fun i _ => ⟨i0, i1⟩)
      rwa [show wtM M (fun _ => ((lv : Int), (σ : Int), at', due)) 1 = updM M lv (Mk.withoutN (M lv) [(σ : Int)]) from by
        show updM M ((lv : Int).toNat) (Mk.withoutN (M ((lv : Int).toNat)) [(σ : Int)]) = _
        rw [Int.toNat_natCast]] at this)
    obtain ⟨U, hU⟩ : ∃ U, U = updM M lv (Mk.withoutN (M lv) [(σ : Int)]) := ⟨_, rfl⟩
    rw [← hU] at HWS
    have HU := Lib.hid hU
    unfold mv at HWS
    have HKeep := Lib.hid (fun (w' : World) (hc : Ch [] W9 w') => show (w'.rangeAt B 514 (ml M) ∧ w'.rangeAt (w.heap.size + 1) 0 [.int .i64 (lv : Int), .int .i64 (σ : Int), .int .u64 at', .int .u64 due]) ∧ w'.there B 514 8 ∧ WC w' base B S now puts (less L id) (less L id) L from by
      have hc : ChP (fun _ => False) W9 w' := .quiet hc
      have hlB := cell_lt (hMc 0 (by decide))
      have hlY := cell_lt (hQ9 0 _ rfl)
      exact ⟨⟨fun j v hv => (hc.cell (p := ⟨B, 514 + j, none⟩) hlB (fun h => h)).trans (hM9 j v hv), fun j v hv => (hc.cell (p := ⟨w.heap.size + 1, 0 + j, none⟩) hlY (fun h => h)).trans (hQ9 j v hv)⟩,
        ml_there (fun n hn => (hc.cell (p := ⟨B, 514 + n, none⟩) hlB (fun h => h)).trans (hMc n hn)) (fun o => (hc.frozen (p := ⟨B, o, none⟩) hlB (fun h => h)).trans (HC9.out.fr o)), HC9.out.frame hc (fun _ _ _ h => h)⟩)
    have hMD : W9.drew.rangeAt B 514 (ml M) := hM9
    have hQD : W9.drew.rangeAt (w.heap.size + 1) 0 [.int .i64 (lv : Int), .int .i64 (σ : Int), .int .u64 at', .int .u64 due] := hQ9
    clear hMc hMB hMlt hU hM9 hQ9
    refine wp_region_noPanic ?_
    refine wp_region_lastL _ (by kernel_rfl) rfl (by kernel_rfl) (fun w' => (w'.rangeAt B 514 (ml M) ∧ w'.rangeAt (w.heap.size + 1) 0 [.int .i64 (lv : Int), .int .i64 (σ : Int), .int .u64 at', .int .u64 due])) ⟨hMD, hQD⟩ (fun hHeld => ?_)
    simp only [List.dropLast_cons_cons, List.dropLast_singleton, List.length_cons, List.length_nil]
    refine wpAnyH_take (i := 0) (v := ?v6_0) rfl (by kernel_rfl) (by kernel_rfl) (by kernel_rfl) (fun _ _ _ h => h) (Or.inl ⟨by rfl, ?y6_0⟩) (by assumption) ?_
    case y6_0 => intro w hSw; obtain ⟨s0, s1⟩ := hSw; go_simp; try with_reducible rfl
    try simp only [Act.put, List.getElem_toArray, List.getElem_cons_zero, List.setIfInBounds_toArray, List.set_cons_zero, List.set_cons_succ]
    refine wpAnyH_take (i := 1) (v := ?v6_1) rfl (by kernel_rfl) (by kernel_rfl) (by kernel_rfl) (fun _ _ _ h => h) (Or.inl ⟨by rfl, ?y6_1⟩) (by assumption) ?_
    case y6_1 => intro w hSw; obtain ⟨s0, s1⟩ := hSw; go_simp; try with_reducible rfl
    try simp only [Act.put, List.getElem_toArray, List.getElem_cons_succ, List.getElem_cons_zero, List.setIfInBounds_toArray, List.set_cons_zero, List.set_cons_succ]
    refine wpAnyH_take (i := 2) (v := ?v6_2) rfl (by kernel_rfl) (by kernel_rfl) (by kernel_rfl) (fun _ _ _ h => h) (Or.inl ⟨by rfl, ?y6_2⟩) (by assumption) ?_
    case y6_2 => intro w hSw; obtain ⟨s0, s1⟩ := hSw; go_simp; try with_reducible rfl
    try simp only [Act.put, List.getElem_toArray, List.getElem_cons_succ, List.getElem_cons_zero, List.setIfInBounds_toArray, List.set_cons_zero, List.set_cons_succ]
    refine wpAnyH_take (i := 3) (v := ?v6_3) rfl (by kernel_rfl) (by kernel_rfl) (by kernel_rfl) (fun _ _ _ h => h) (Or.inl ⟨by rfl, ?y6_3⟩) (by assumption) ?_
    case y6_3 => intro w hSw; obtain ⟨s0, s1⟩ := hSw; go_simp; try with_reducible rfl
    try simp only [Act.put, List.getElem_toArray, List.getElem_cons_succ, List.getElem_cons_zero, List.setIfInBounds_toArray, List.set_cons_zero, List.set_cons_succ]
    refine wpAnyH_take (i := 4) (v := .agg (ml M).toArray) rfl (by kernel_rfl) (by kernel_rfl) (by kernel_rfl) (fun _ _ _ h => h) (yieldsIf_load_mid rfl 101 (.tmp 38) rfl B 514 rfl (ml M) _ (fun _ h => h.1) Tryz.underlying101 rfl (by kernel_rfl)) (by assumption) ?_
    try simp only [Act.put, List.getElem_toArray, List.getElem_cons_succ, List.getElem_cons_zero, List.setIfInBounds_toArray, List.set_cons_zero, List.set_cons_succ]
    refine wpAnyH_take (i := 5) (v := .agg ([.int .i64 (lv : Int), .int .i64 (σ : Int), .int .u64 at', .int .u64 due]).toArray) rfl (by kernel_rfl) (by kernel_rfl) (by kernel_rfl) (fun _ _ _ h => h) (yieldsIf_load_mid rfl 40 (.tmp 5) rfl (w.heap.size + 1) 0 rfl ([.int .i64 (lv : Int), .int .i64 (σ : Int), .int .u64 at', .int .u64 due]) _ (fun _ h => h.2) Tryz.underlying40 rfl (by kernel_rfl)) (by assumption) ?_
    try simp only [Act.put, List.getElem_toArray, List.getElem_cons_succ, List.getElem_cons_zero, List.setIfInBounds_toArray, List.set_cons_zero, List.set_cons_succ]
    unfold ml
    have hq1 : Ch [] W9 (W9.drew.alloc (.cells #[.int .i64 (lv : Int), .int .i64 (σ : Int), .int .u64 at', .int .u64 due] 40)) := ((Ch.refl [] W9).drew).alloc _
    refine wpAnyH_ready (rs := [6]) (by kernel_rfl) (by simp) ?_
    refine AllReadyH.cons rfl (fun K hK => ?_) AllReadyH.nil
    go_simp
    refine hK.out _ _ (HKeep.out _ hq1).1 (fun hHeld => ?_)
    clear hK K
    try simp only [Act.put, List.getElem_toArray, List.getElem_cons_succ, List.getElem_cons_zero, List.setIfInBounds_toArray, List.set_cons_zero, List.set_cons_succ]
    refine wpAnyH_ready (rs := [7]) (by kernel_rfl) (by simp) ?_
    refine AllReadyH.cons rfl (fun K hK => ?_) AllReadyH.nil
    go_simp
    refine (HWS.out (W9.drew.alloc (.cells #[.int .i64 (lv : Int), .int .i64 (σ : Int), .int .u64 at', .int .u64 due] 40)) W9.heap.size (Four.new W9.drew (.int .i64 (lv : Int)) (.int .i64 (σ : Int)) (.int .u64 at') (.int .u64 due) 40)).mono ?_
    rintro e w10 ⟨rfl, hc10⟩
    have hc10 := hq1.trans hc10
    obtain ⟨K10, T10, C10⟩ := HKeep.out w10 hc10
    have HC10 := Lib.hid hc10
    have HC11 := Lib.hid C10
    clear hc10 C10
    try go_simp
    refine hK.out _ _ K10 (fun hHeld => ?_)
    clear hK K
    try simp only [Act.put, List.getElem_toArray, List.getElem_cons_succ, List.getElem_cons_zero, List.setIfInBounds_toArray, List.set_cons_zero, List.set_cons_succ]
    refine wpAnyH_take (i := 8) (v := ?v6_8) rfl (by kernel_rfl) (by kernel_rfl) (by kernel_rfl) (fun _ _ _ h => h) (Or.inl ⟨by rfl, ?y6_8⟩) (by assumption) ?_
    case y6_8 => intro w hSw; obtain ⟨s0, s1⟩ := hSw; go_simp; try with_reducible rfl
    try simp only [Act.put, List.getElem_toArray, List.getElem_cons_succ, List.getElem_cons_zero, List.setIfInBounds_toArray, List.set_cons_zero, List.set_cons_succ]
    refine wpAnyH_take (i := 9) (v := ?v6_9) rfl (by kernel_rfl) (by kernel_rfl) (by kernel_rfl) (fun _ _ _ h => h) (Or.inl ⟨by rfl, ?y6_9⟩) (by assumption) ?_
    case y6_9 => intro w hSw; obtain ⟨s0, s1⟩ := hSw; go_simp; try with_reducible rfl
    try simp only [Act.put, List.getElem_toArray, List.getElem_cons_succ, List.getElem_cons_zero, List.setIfInBounds_toArray, List.set_cons_zero, List.set_cons_succ]
    refine wpAnyH_done (by kernel_rfl) ?_ _
    unfold lastPost
    simp only []
    refine wp_store_mid 101 (.tmp 44) (.tmp 42) rfl B 514 (ml U).toArray rfl rfl T10 (by kernel_rfl) (all_oneCell_toArray (by simp [ml, Value.oneCell'])) ?_
    refine NoPanic.normal ?_
    rw [show (ml U).toArray.toList = ml U from rfl]
    have hfin := HC11.out.masks8 (M := U) (L := less L id) (by rw [HU.out]; exact HMB.out.less_drop HWI.out HT.out (i := lv * 64 + σ) (by simp only []; omega) (by rw [← HYs.out, HY0.out]))
    have hch : ChP S w (set8 w10 B U) := ((HCw7.out.trans HX9.out).trans (.quiet HC10.out)).trans ((set8_chP w10 B U).mono (fun k e => e ▸ hfin.own))
    rw [show w10.setCells B 514 (ml U) = set8 w10 B U from rfl]
    generalize set8 w10 B U = W12 at *
    have HF1 := Lib.hid hfin
    have HF2 := Lib.hid hch
    clear hfin hch
    try simp only [Act.put]
    go_end0
    exact ⟨rfl, HWend.out _ HF1.out HF2.out, HF2.out⟩
  · have hm1 : ¬ ((m : Nat) : Int) = 0 := by omega
    go_wp2_with (first
      | (go_at_call 67; refine HStr.out.mono ?_; rintro e w8 ⟨rfl, hown8, hg8⟩; obtain ⟨k1, k2, k3, k4⟩ := HFin.out _ w8 hown8 hg8 (fun k e => by cases e; rfl); have HK3 := Lib.hid k3; have HK4 := Lib.hid k4; have HG8 := Lib.hid hg8; clear k3 k4 hown8 hg8)
      | fail)
    have hfin : WC (w8.setCell ⟨B, 2 + lv * 64 + σ, none⟩ (.slice (some ⟨g, 0, none⟩) m cap)) base B S now puts (less L id) (less L id) (less L id) := HK3.out.masksKeep (fun M hM => hM.less_keep HWI.out HT.out (i := lv * 64 + σ) (by simp only []; omega) (by
      rw [← HYs.out]
      intro e
      rw [e] at HMm
      exact hm0 HMm.out))
    have hch := HCw7.out.trans HK4.out
    generalize w8.setCell ⟨B, 2 + lv * 64 + σ, none⟩ (.slice (some ⟨g, 0, none⟩) m cap) = W9 at *
    go_end0
    exact ⟨rfl, HWend.out _ hfin hch, hch⟩
end Go.Proofs.YtnndofeomakpiaaGreatDoor
namespace Go.Proofs.YtnndofeomakpiaaGreatDoor
open Go.RowKit Go.Maps

attribute [local go_sem] Oper.semAt_some

/-- What is left when these are taken out. -/
def delL (L : List Tm) (zs : List Int) : List Tm := zs.foldl less L
theorem delL_snoc (L : List Tm) (zs : List Int) (x : Int) : delL L (zs ++ [x]) = less (delL L zs) x := by
  unfold delL
  rw [List.foldl_append]
  rfl
theorem delL_eq (zs : List Int) : ∀ L : List Tm, delL L zs = L.filter fun t => decide (t.id ∉ zs) := by
  induction zs with
  | nil => intro L; exact (List.filter_eq_self.2 (fun _ _ => by simp)).symm
  | cons x r ih =>
    intro L
    show delL (less L x) r = _
    rw [ih, less, List.filter_filter]
    apply List.filter_congr
    intro t _
    simp only [List.mem_cons, not_or]
    by_cases e : t.id = x <;> simp [e]
theorem less_no {L : List Tm} {k : Int} (hno : ∀ t ∈ L, t.id ≠ k) : less L k = L := by
  unfold less
  rw [List.filter_eq_self]
  intro t ht
  simpa using hno t ht
theorem take_snoc (zs : List Int) {k : Nat} (hk : k < zs.length) : zs.take (k + 1) = zs.take k ++ [zs[k]?.getD 0] := by
  rw [List.take_add_one]
  simp [hk]
theorem lookV_in {L : List Tm} (hnd : (L.map (·.id)).Nodup) {t : Tm} (ht : t ∈ L) : lookV L t.id = rv t.sp t.put ∧ lookB L t.id = true := by
  unfold lookV lookB
  rw [find_in hnd ht]
  exact ⟨rfl, rfl⟩
theorem lookV_no {L : List Tm} {k : Int} (hno : ∀ t ∈ L, t.id ≠ k) : lookV L k = rv0 ∧ lookB L k = false := by
  unfold lookV lookB
  rw [find_no hno]
  exact ⟨rfl, rfl⟩
theorem delL_sub (L : List Tm) (zs : List Int) : (delL L zs).length ≤ L.length := by rw [delL_eq]; exact List.length_filter_le _ _
theorem ints_chP {w w' : World} {a : Option Addr} {zs : List Int} {T : Nat → Prop} (h : Mk.IntsAt w a zs) (hc : ChP T w w') (hT : ∀ b o, a = some ⟨b, o, none⟩ → ¬ T b) : Mk.IntsAt w' a zs := by
  rcases h with rfl | ⟨b, off, rfl, h1⟩
  · exact .inl rfl
  · exact .inr ⟨b, off, rfl, fun i hi => (hc.cell (p := ⟨b, off + i, none⟩) (cell_lt (h1 i hi)) (hT b off rfl)).trans (h1 i hi)⟩

set_option maxRecDepth 100000 in
set_option maxHeartbeats 4000000 in
theorem del_any {w : World} {base B : Nat} {S : Nat → Prop} {now : Int} {puts : Nat} {L : List Tm} (h : WB w base B S now puts L) {a : Option Addr} {cap : Nat} {zs : List Int} (hz : Mk.IntsAt w a zs) (hl : zs.length ≤ 9223372036854775807) (hwf : ∀ x ∈ zs, wf64 x) (hn : ∀ b o, a = some ⟨b, o, none⟩ → ¬ S b) :
    Calls Tryz.prog 32 #[.pointer (some ⟨B, 0, none⟩), .slice a zs.length cap] w fun e w' => e = .returned (.int .i64 ((L.length - (delL L zs).length : Nat) : Int)) ∧ WB w' base B S now puts (delL L zs) ∧ ChP S w w' := by
  have HW := Lib.hid h
  have HZ := Lib.hid hz
  have HL := Lib.hid hl
  have HF := Lib.hid hwf
  have HN := Lib.hid hn
  obtain ⟨len, hlen⟩ : ∃ len, len = zs.length := ⟨_, rfl⟩
  rw [← hlen]
  have HLen := Lib.hid hlen
  clear h hz hl hwf hn hlen
  go_enter Tryz.func32, Tryz.ntmps32
  go_wp2_with fail
  go_loopw [5, 14] (fun n i wr => ∃ k : Nat, k ≤ len ∧ n = .int .i64 ((L.length - (delL L (zs.take k)).length : Nat) : Int) ∧ i = .int .i64 (k : Int) ∧ WB wr base B S now puts (delL L (zs.take k)) ∧ ChP S w wr) (fun _ i _ => len - (intOf i).toNat)
  case atStart => exact ⟨0, Nat.zero_le _, by simp [delL], rfl, by simpa [delL] using HW.out, ChP.refl _ _⟩
  case round =>
    obtain ⟨k, hk, rfl, rfl, hW, hC⟩ := hrel
    have hL := HL.out
    have hLen := HLen.out
    by_cases hlt : k < len
    · have hk' : k < zs.length := by omega
      obtain ⟨b, off, rfl, hcell⟩ := (ints_chP HZ.out hC HN.out).resolve_left (fun e => by rw [e] at hk'; simp at hk')
      have hc := hcell k hk'
      have hwx : wf64 (zs[k]?.getD 0) := HF.out _ (by rw [List.getElem?_eq_getElem hk']; simp)
      have HT := Lib.hid (take_snoc zs hk')
      generalize zs[k]?.getD 0 = x at *
      rw [show delL L (zs.take k) = delL L (zs.take k) from rfl] at hW
      obtain ⟨K, hK⟩ : ∃ K, K = delL L (zs.take k) := ⟨_, rfl⟩
      rw [← hK] at hW
      have HK := Lib.hid (show delL L (zs.take (k + 1)) = less K x by rw [HT.out, delL_snoc, hK])
      have hKL : K.length ≤ L.length := by rw [hK]; exact delL_sub _ _
      have hb0 : (0 : Int) ≤ (k : Int) := by omega
      have hb1 : (k : Int) < (len : Int) := by omega
      rw [← hK]
      obtain ⟨m, c5, hh, -⟩ := hW.held
      have hlk := (look_run hh hwx).1
      have HWk := Lib.hid hW
      have HCk := Lib.hid hC
      have hB := hW.hi B hW.own
      rcases in_or_no K x with ⟨t, ht, rfl⟩ | hno
      · obtain ⟨e1, e2⟩ := lookV_in hW.wi.nd ht
        rw [e1, e2] at hlk
        have HD := Lib.hid (fun W (hc : Ch [] wr W) => drop_any (hW.quiet hc) ht)
        obtain ⟨tid, ⟨lv, sl, sa, sd⟩, put⟩ := t
        unfold rv at hlk
        unfold spV at HD
        have HD1 := Lib.hid (show (L.length - (less K tid).length = L.length - K.length + 1) ∧ L.length - K.length ≤ 256 from by
          have h5 : (less K tid).length + 1 = K.length := less_length hW.wi.nd ht
          have h6 := HW.out.wi.len
          omega)
        generalize L.length - K.length = dd at *
        simp only [] at hlk HD hc HK HT
        have hal := (Ch.refl [] wr).alloc (.cells #[.int .i64 (lv : Int), .int .i64 sl, .int .u64 sa, .int .u64 sd, .int .u64 (put : Int)] 108)
        have HAl := Lib.hid hal
        clear hal hh hW hC hcell hwx e1 e2 ht hK
        go_wp2_with fail
        with_reducible refine (HD.out _ HAl.out).mono ?_
        rintro e w4 ⟨rfl, hwb4, hch4⟩
        have HW4 := Lib.hid hwb4
        have HC4 := Lib.hid ((HCk.out.trans (.quiet HAl.out)).trans hch4)
        clear hwb4 hch4 hlk c5 hc
        go_frame
        have hd1 : (dd : Int) ≤ 256 := by have := HD1.out.2; omega
        have hd2 : (0 : Int) ≤ (dd : Int) := by omega
        go_wp2_with fail
        go_roundw
        case rel => exact ⟨k + 1, by omega, by rw [HK.out, HD1.out.1]; go_num, by go_num, by rw [HK.out]; exact HW4.out, HC4.out⟩
        case measure => simp [intOf]; omega
      · obtain ⟨e1, e2⟩ := lookV_no hno
        rw [e1, e2] at hlk
        unfold rv0 at hlk
        have HNo := Lib.hid (less_no hno)
        have HAl := Lib.hid ((Ch.refl [] wr).alloc (.cells #[.int .i64 0, .int .i64 0, .int .u64 0, .int .u64 0, .int .u64 0] 108))
        clear hh hW hC hcell hwx e1 e2 hK hno
        go_wp2_with fail
        go_roundw
        case rel => exact ⟨k + 1, by omega, by rw [HK.out, HNo.out], by go_num, by rw [HK.out, HNo.out]; exact HWk.out.quiet HAl.out, HCk.out.trans (.quiet HAl.out)⟩
        case measure => simp [intOf]; omega
    · obtain rfl : k = len := by omega
      have HWk := Lib.hid hW
      have HCk := Lib.hid hC
      have ht : zs.take k = zs := by rw [hLen]; exact List.take_length
      rw [ht] at HWk ⊢
      clear hW hC ht
      go_wp2
      go_ret
      exact ⟨rfl, HWk.out, HCk.out⟩
end Go.Proofs.YtnndofeomakpiaaGreatDoor
/-
  (No Ids in this program.)
-/

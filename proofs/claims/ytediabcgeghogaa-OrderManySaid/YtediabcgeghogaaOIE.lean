/-
  An order of keys of int: its touches, gathered out of the map and sorted.
-/
import Derived.Test.YtediabcgeghogaaOIC
import Derived.Test.YtediabcgeghogaaOrS
namespace Go.Proofs.Ytediabcgeghogaa.oI
open Go.RowKit Go.Maps Go.Sort

attribute [local go_sem] Oper.semAt_some

/-- A touch as it lies in a row. -/
def encE (e : Ent) : List Value := [kv e.k, .int .u64 (e.t : Int)]
theorem encE_two (e : Ent) : ∃ a b, encE e = [a, b] := ⟨_, _, rfl⟩
theorem encE_one (e : Ent) : ∀ v ∈ encE e, v.oneCell' = true := by intro v hv; simp [encE] at hv; rcases hv with rfl | rfl <;> rfl

/-- What a range over the map has met. -/
structure Coll (D : DataW Value) (L : List Ent) (left : Lit → Bool) (ss : List Ent) (cnt : Nat) : Prop where
  nd : (ss.map (·.k)).Nodup
  old : ∀ e ∈ ss, e ∈ L ∧ left (kl e.k) = false
  rest : ∀ e ∈ L, e ∈ ss ∨ left (kl e.k) = true
  num : ss.length + cnt ≤ L.length
theorem ent_eq {L : List Ent} (hnd : (L.map (·.k)).Nodup) {a b : Ent} (ha : a ∈ L) (hb : b ∈ L) (e : a.k = b.k) : a = b := by
  induction L with
  | nil => cases ha
  | cons x r ih =>
    rw [List.map_cons, List.nodup_cons] at hnd
    rcases List.mem_cons.1 ha with rfl | ha'
    · rcases List.mem_cons.1 hb with rfl | hb
      · rfl
      · exact absurd (show a.k ∈ r.map (·.k) from List.mem_map.2 ⟨b, hb, e.symm⟩) hnd.1
    · rcases List.mem_cons.1 hb with rfl | hb'
      · exact absurd (show b.k ∈ r.map (·.k) from List.mem_map.2 ⟨a, ha', e⟩) hnd.1
      · exact ih hnd.2 ha' hb'
theorem Coll.start {D : DataW Value} {L : List Ent} (h : Vw D L) : Coll D L (has D) [] (size D) := ⟨by simp, by simp, fun e he => .inr (h.has he), by rw [h.sz]; simp⟩
theorem Coll.step {D : DataW Value} {L : List Ent} {left : Lit → Bool} {ss : List Ent} {cnt cnt' : Nat} (h : Coll D L left ss cnt) (hv : Vw D L) {l : Lit} {x : K × Int} {y : DataW Value × List MemPlace}
    (hl : left l = true) (hx : rd (rv x.1 x.2) = some y) (hat : ∀ zd, D.atKey l zd = y.1) (hc : cnt' < cnt) : ∃ e : Ent, x = (e.k, (e.t : Int)) ∧ Coll D L (fun z => left z && !z.sameKey l) (ss ++ [e]) cnt' := by
  obtain ⟨e, he, rfl⟩ := hv.all l (has_true_of_atKey hat)
  have hk := (hv.mem e he).1
  rw [rd_mk] at hx
  have h1 := hat (.held (.bool true))
  rw [(hv.mem e he).2] at h1
  cases hx
  obtain ⟨xk, xt⟩ := x
  have e2 : xk = e.k ∧ xt = (e.t : Int) := by simp at h1; exact ⟨h1.1.symm, h1.2.symm⟩
  refine ⟨e, by rw [e2.1, e2.2], ?_⟩
  have hnew : e.k ∉ ss.map (·.k) := fun hm => by
    obtain ⟨s, hs, e3⟩ := List.mem_map.1 hm
    have := (h.old s hs).2
    rw [e3, hl] at this
    cases this
  refine ⟨?_, fun s hs => ?_, fun e' he' => ?_, by have := h.num; simp; omega⟩
  · rw [List.map_append, List.nodup_append]
    exact ⟨h.nd, by simp, fun a ha b hb => by simp at hb; subst hb; exact fun e1 => hnew (e1 ▸ ha)⟩
  · rcases List.mem_append.1 hs with hm | hm
    · exact ⟨(h.old s hm).1, by simp [(h.old s hm).2]⟩
    · obtain rfl : s = e := by simpa using hm
      exact ⟨he, by simp [WideAt.sameKey_self (is_key s.k)]⟩
  · by_cases e3 : e' = e
    · exact .inl (by simp [e3])
    · rcases h.rest e' he' with h2 | h2
      · exact .inl (by simp [h2])
      · exact .inr (by simp [h2, sameKey_ne (fun e4 => e3 (ent_eq hv.nd he' he (kl_inj (hv.mem e' he').1 hk e4)))])
theorem nodup_of_map {β γ : Type} (f : β → γ) : ∀ {l : List β}, (l.map f).Nodup → l.Nodup
  | [], _ => List.nodup_nil
  | x :: r, h => by
    rw [List.map_cons, List.nodup_cons] at h
    exact List.nodup_cons.2 ⟨fun hm => h.1 (List.mem_map.2 ⟨x, hm, rfl⟩), nodup_of_map f h.2⟩
theorem Coll.perm {D : DataW Value} {L : List Ent} {left : Lit → Bool} {ss : List Ent} {cnt : Nat} (h : Coll D L left ss cnt) (hv : Vw D L) (hl : ∀ l, left l = false) : ss.Perm L := by
  refine (List.perm_ext_iff_of_nodup (nodup_of_map _ h.nd) (nodup_of_map _ hv.nd)).2 fun e => ⟨fun he => (h.old e he).1, fun he => ?_⟩
  rcases h.rest e he with h1 | h1
  · exact h1
  · rw [hl] at h1; cases h1

/-- Two touches, by when they were. -/
theorem when_any (x y : Ent) (W : World) : Calls Try.prog 38 #[.agg (encE x).toArray, .agg (encE y).toArray] W fun e w' => e = .returned (.int .i64 (cmpI (x.t : Int) (y.t : Int))) ∧ ∃ q os', w' = grow (W.drewN q) os' := by
  have hcon := fun W' => cmp_any (x.t : Int) (y.t : Int) W'
  generalize cmpI (x.t : Int) (y.t : Int) = r at hcon ⊢
  unfold encE
  go_enter Try.func38, Try.ntmps38
  go_wp2_with (go_at_call 39; refine (hcon _).mono ?_; rintro e w' ⟨rfl, rfl⟩)
  go_ret
  exact ⟨rfl, 0, _, by rw [alloc_eq_grow, alloc_eq_grow, grow_grow]; rfl⟩

def cmpE {L : List Ent} (x y : {e // e ∈ L}) : Int := cmpI (x.1.t : Int) (y.1.t : Int)
theorem lt_cmpE {L : List Ent} (x y : {e // e ∈ L}) : ltOf cmpE x y = decide (x.1.t < y.1.t) := by
  unfold ltOf cmpE cmpI
  rw [Bool.eq_iff_iff]
  simp only [decide_eq_true_eq]
  split
  · omega
  · split <;> omega
theorem swo_cmpE (L : List Ent) : SWO (ltOf (cmpE (L := L))) := by
  refine ⟨fun x => ?_, fun x y z h1 h2 => ?_, fun x y z h1 h2 => ?_⟩
  · rw [lt_cmpE]; simp
  · rw [lt_cmpE, decide_eq_true_eq] at *; omega
  · rw [lt_cmpE, decide_eq_false_iff_not] at *; omega
theorem up_inj {L : List Ent} (h : L.Pairwise fun a b => a.t < b.t) {a b : Ent} (ha : a ∈ L) (hb : b ∈ L) (e : a.t = b.t) : a = b := by
  induction L with
  | nil => cases ha
  | cons x r ih =>
    rw [List.pairwise_cons] at h
    rcases List.mem_cons.1 ha with rfl | ha'
    · rcases List.mem_cons.1 hb with rfl | hb
      · rfl
      · have := h.1 b hb; omega
    · rcases List.mem_cons.1 hb with rfl | hb'
      · have := h.1 a ha'; omega
      · exact ih h.2 ha' hb'
theorem isAggT (w : World) : (isAgg 62).run Try.prog w = .ok true w := by kernel_rfl
theorem sizeT (w : World) : (Go.sizeOf 62).run Try.prog w = .ok 2 w := by kernel_rfl

/-- slices.SortFunc over touches: they rise behind it. -/
theorem sort_any {w : World} {base n : Nat} {L ss : List Ent} (hr : Ris n L) (hp : ss.Perm L) {v : Value} (hown : w.ownsRow base 62 2 v ss.length (ss.flatMap encE)) (hlen : ss.length ≤ 2048) :
    Calls Try.prog 37 #[v, .func (.func 38) #[] #[]] w fun e w' => e = .returned (.tuple #[]) ∧ w'.ownsRow base 62 2 v L.length (L.flatMap encE) ∧ w.grownBy w' v.ownBlock := by
  by_cases hy : ss = []
  · subst hy
    obtain rfl := List.nil_perm.1 hp
    obtain ⟨a, cp, rfl⟩ := own_form hown
    refine (AnyF.slices_SortFunc_none Try.laysTI a cp _ w).mono ?_
    rintro e w' ⟨rfl, rfl⟩
    exact ⟨rfl, hown, ⟨rfl, rfl, rfl, Nat.le_refl _, fun _ _ _ => rfl⟩⟩
  · rcases hown.2 with ⟨_, h0⟩ | ⟨g, cap, cur, rfl, hbase, hg, k2, k3, k4, k5⟩
    · exact absurd (List.length_eq_zero_iff.1 h0) hy
    obtain ⟨y0, hy0⟩ := List.exists_mem_of_ne_nil _ hy
    letI : Inhabited {e // e ∈ L} := ⟨⟨y0, hp.mem_iff.1 hy0⟩⟩
    obtain ⟨ys, hys⟩ : ∃ ys : List {e // e ∈ L}, ys.map (·.1) = ss := ⟨ss.pmap Subtype.mk (fun e he => hp.mem_iff.1 he), by rw [List.map_pmap]; simp⟩
    have hgl : g < w.heap.size := (Array.getElem?_eq_some_iff.1 hg).1
    have eg : ∀ args w, (callFunc 38 args).run Try.prog w = .ok (.enter 38 args) w := enters_of Try.func38 (by kernel_rfl) rfl
    have hyl : ys.length = ss.length := by rw [← hys]; simp
    have h2 : ∀ y : {e // e ∈ L}, ∃ a b, encE y.1 = [a, b] := fun y => encE_two y.1
    have hfl : ∀ zs : List {e // e ∈ L}, zs.flatMap (fun y => encE y.1) = (zs.map (·.1)).flatMap encE := fun zs => by rw [List.flatMap_map]
    have hH : HoldsK (fun y : {e // e ∈ L} => encE y.1) 2 w g 0 ys.toArray := holdsK_of_block h2 hg (by rw [hyl, hfl, hys]; exact k5)
    have hcon := AnyQ.slices_SortFunc_total Try.laysTI 2 isAggT sizeT (fun y : {e // e ∈ L} => encE y.1) (fun _ => rfl) (fun y => encE_one y.1) cmpE (swo_cmpE L) 38 #[] g 0 cap ys.toArray w eg (fun _ _ _ _ x y => when_any x.1 y.1 _) hH hgl (by simp; omega) (fun x y e1 e2 => by
      rw [lt_cmpE, decide_eq_false_iff_not] at e1 e2
      exact Subtype.ext (up_inj hr.up x.2 y.2 (by omega)))
    rw [List.size_toArray, hyl] at hcon
    refine hcon.mono ?_
    rintro e w' ⟨rfl, m, os, rfl⟩
    have hq := List.mergeSort_perm ys (fun x y => !(ltOf cmpE) y x)
    have hL : (ys.mergeSort fun x y => !(ltOf cmpE) y x).map (·.1) = L := by
      refine rising_eq ((hq.map _).trans (hys ▸ hp)) ?_ hr.up
      rw [List.pairwise_map]
      refine (List.pairwise_mergeSort (le := fun x y => !(ltOf (cmpE (L := L))) y x) (fun a b c e1 e2 => ?_) (fun a b => ?_) ys).imp (fun {a b} e => ?_)
      · rw [Bool.not_eq_true', lt_cmpE, decide_eq_false_iff_not] at *; omega
      · simp only [lt_cmpE, Bool.or_eq_true, Bool.not_eq_true', decide_eq_false_iff_not]; omega
      · rw [Bool.not_eq_true', lt_cmpE, decide_eq_false_iff_not] at e; omega
    refine ⟨rfl, ?_, grownBy_sortedK _⟩
    have := ownsRow_sortedK h2 (n := m) (os := os) (ss := ys) (ts := ys.mergeSort fun x y => !(ltOf cmpE) y x) (by simp) hbase hg (by rw [hyl]; exact k2) k3 k4
    rw [hfl, hL, hyl] at this
    rwa [← hp.length_eq]

theorem two_at {w : World} {b : Nat} {u v : Value} (h : Box2 w b u v) : ∀ (j : Nat) (x : Value), [u, v][j]? = some x → w.cell? ((⟨b, 0, none⟩ : Addr).add j) = some x := by
  intro j x hx
  rw [addr_add, Nat.zero_add]
  match j, hx with
  | 0, hx => simp at hx; subst hx; exact h.c0
  | 1, hx => simp at hx; subst hx; exact h.c1
  | j + 2, hx => simp at hx
theorem gath_nil (w : World) : Calls Try.prog 32 #[.pointer none] w fun r w' => r = .returned (.slice none 0 0) ∧ w' = w := by
  go_enter Try.func32, Try.ntmps32
  go_wp2_with fail
  go_ret
  exact ⟨rfl, rfl⟩

theorem infoT : (Try.prog.info? 62).map (fun i => (i.zero, i.size, i.bytes)) = some (some (rv k0 0), 2, 16) := by kernel_rfl

set_option maxRecDepth 100000 in
set_option maxHeartbeats 2000000 in
theorem gath_any {w : World} {R M room n : Nat} {L : List Ent} (h : OR w R M room n L) :
    Calls Try.prog 32 #[.pointer (some ⟨R, 0, none⟩)] w fun r w' => ∃ g cap, r = .returned (.slice (some ⟨g, 0, none⟩) L.length cap) ∧ w'.ownsRow w.heap.size 62 2 (.slice (some ⟨g, 0, none⟩) L.length cap) L.length (L.flatMap encE) ∧ Below w.heap.size w w' := by
  obtain ⟨i0, hi, hz0, hz1, hz2⟩ := info_parts infoT
  obtain ⟨D, hown, hv⟩ := h.own
  have r2 := h.c2
  have hbl := hown.lt
  have HV := Lib.hid hv
  have HLn := Lib.hid (show L.length ≤ 64 from Nat.le_trans h.hl h.hr.2)
  have HRs := Lib.hid h.ris
  have hmax : size D ≤ maxLen := by rw [hv.sz]; have := HLn.out; unfold maxLen; omega
  have hbytes : size D ≤ 64 := by rw [hv.sz]; exact HLn.out
  obtain ⟨m, hm⟩ : ∃ m, m = L.length := ⟨_, rfl⟩
  rw [← hm] at hown
  clear h hv hm
  go_enter Try.func32, Try.ntmps32
  go_wp2_with (first
    | (at_len; refine wpList_len_own _ rfl _ 55 rfl 59 62 Try.underlying55 _ M m D rfl hown ?_)
    | (at_make; refine wpList_make_own _ rfl _ _ 79 rfl w.heap.size 62 i0 (rv k0 0) 2 Try.underlying79 hi hz0 hz1 _ _ _ (size D) rfl rfl rfl (by rw [hz2]; omega) hmax (Nat.le_refl _) ?_; intro w1 hrow1 hg1; have r2' := hg1.cell r2 (by simp))
    | (at_range; refine wpList_range_own _ rfl _ 55 rfl 59 62 law Try.underlying55 _ M m D rfl (hown.kept hg1 (by simp)) ?_; intro w0 hrg0 hg0 hs0)
    | fail)
  go_frame
  go_loopw [3] (fun v wr => ∃ (left : Lit → Bool) (cnt : Nat) (ss : List Ent), wr.ranges Try.prog 59 rd M w1.heap.size m D left cnt ∧ wr.ownsRow w.heap.size 62 2 v ss.length (ss.flatMap encE) ∧ v ≠ .slice none 0 0 ∧ Coll D L left ss cnt ∧ Below w.heap.size w wr)
    (fun _ wr => wr.rangeLeft M w1.heap.size)
  case atStart =>
    exact ⟨_, _, [], hrg0, hrow1.kept hg0 (Or.inr (by simp [Value.ownBlock])), by simp, Coll.start HV.out, ((Below.refl _ _).grown hg1 (Nat.le_refl _) (fun j hj => by cases hj)).grown hg0 hg1.size (fun j hj => by cases hj)⟩
  case round =>
    obtain ⟨left, cnt, ss, hrg, hrow, hnn, hC, hnx⟩ := hrel
    have HW1 := Lib.hid hg1.size
    clear hrow1 hg1 hg0 hrg0 hs0 r2 r2'
    go_wp2_with (first
      | (at_next; refine wpList_next_ranges _ rfl _ rfl 59 law rd (fun v : Value => v) (fun c : K × Int => rv c.1 c.2) (fun key kl hk => ⟨key, rfl⟩) (fun v y hv => rd_inv hv) M w1.heap.size m _ _ _ rfl hrg ?_ ?_)
      | fail)
    · intro hc0 hl0
      have hp := hC.perm HV.out hl0
      have HS := Lib.hid (sort_any HRs.out hp hrow (by have := hp.length_eq; have := HLn.out; omega))
      have HLe := Lib.hid hp.length_eq
      have HNx := Lib.hid hnx
      have HRow := Lib.hid hrow
      obtain ⟨g, cap, rfl⟩ := own_some hrow hnn
      clear hC hp hnx hrow hrg
      go_wp2_with (go_at_call 37; refine HS.out.mono ?_; rintro e w' ⟨rfl, hrow', hgr⟩; have HRw := Lib.hid hrow'; have HGr := Lib.hid hgr; clear hrow' hgr)
      go_ret
      have hrw := HRw.out
      rw [HLe.out] at *
      exact ⟨g, cap, rfl, hrw, HNx.out.grown HGr.out HNx.out.size (fun j hj => (HRow.out.lt j hj).1)⟩
    · intro key k x l yd yp w2 cnt2 hkey hlk hv2 hat hrg2 hlt hg2 hs2 hen
      obtain ⟨e, hx, hC2⟩ := hC.step (x := (k, x)) (y := (yd, yp)) HV.out hlk hv2 hat hlt
      obtain ⟨rfl, rfl⟩ : k = e.k ∧ x = (e.t : Int) := by simpa using hx
      have HC2 := Lib.hid hC2
      have hrow2 := hrow.kept hg2 (Or.inr (row_ne_iter hrow hrg).symm)
      have HLt := Lib.hid hlt
      have HSl := Lib.hid (show ss.length + 1 ≤ 64 by have := hC.num; have := HLn.out; omega)
      have HOn := Lib.hid (show Box2 ((w2.alloc (.cells #[kv e.k, .int .u64 (e.t : Int)] 62)).alloc (.cells #[kv e.k, .int .u64 (e.t : Int)] 62)) (w2.heap.size + 1) (kv e.k) (.int .u64 (e.t : Int)) by
        have := Box2.new (w2.alloc (.cells #[kv e.k, .int .u64 (e.t : Int)] 62)) (kv e.k) (.int .u64 (e.t : Int)) 62
        rwa [World.size_alloc] at this)
      have HB2 := Lib.hid (hnx.grown hg2 hnx.size (fun j hj => by cases hj; exact HW1.out))
      have HLeft := Lib.hid (And.intro hrg.left_eq hrg2)
      clear hs2 hlt hv2 hat hlk hkey hC hg2 hrg hnx hx hC2
      go_wp2_with (first
        | (at_builtin; refine wpList_append_own _ rfl _ _ 79 rfl w.heap.size 62 i0 (rv k0 0) 2 16 Try.underlying79 hi hz0 hz1 hz2 rfl (by decide) _ _ _ rfl ((hrow2.alloc _).alloc _) ⟨w2.heap.size + 1, 0, none⟩ 1 1 (encE e) rfl rfl (two_at HOn.out) (encE_one e) (by have := HSl.out; unfold maxLen; omega) (by have := HSl.out; omega) (by have := HB2.out.size; simp; omega) ?_; intro v' w3 hown' hg3 hnil3; go_frame)
        | fail)
      have hrg2 := HLeft.out.2
      have hrg3 := ((hrg2.alloc _).alloc _).kept hg3 (row_ne_low hrow2 hbl) (row_ne_iter hrow2 hrg2)
      have hle := HLeft.out.1
      have hlt := HLt.out
      have hw2 := HB2.out.size
      go_roundw
      case rel =>
        refine ⟨_, cnt2, ss ++ [e], hrg3, by rw [List.flatMap_append]; simpa using hown', fun hv' => hnn (hnil3.1 hv').1, HC2.out, ?_⟩
        exact (((HB2.out.alloc hw2 _).alloc (by simp; omega) _).grown hg3 (by simp; omega) (fun j hj => (hrow2.lt j hj).1))
      case measure => rw [hrg3.left_eq, hle]; exact hlt
end Go.Proofs.Ytediabcgeghogaa.oI

/-
  Several texts in one: Touches compared; rows of elements of two cells, sorted. · An order of keys of uint64: its touches, gathered out of the map and sorted. · An order of keys of uint64: its keys, one by one. · An order of keys of uint64: List. · An order of keys of uint64: Oldest.
-/
import Derived.Test.YtalhlopjaijhcaaGreatMgA
import Derived.Test.YtalhlopjaijhcaaGreatShelf
import Derived.Sort.OwnSorted
import Derived.Test.YtalhlopjaijhcaaGreatMgC
namespace Go.Proofs.YtalhlopjaijhcaaGreat
open Go.RowKit Go.Maps Go.Sort

attribute [local go_sem] Oper.semAt_some

def cmpI (x y : Int) : Int := if x < y then -1 else if y < x then 1 else 0
theorem nan_any (x : Int) (w : World) : Calls Tryz.prog 134 #[.int .u64 x] w fun e w' => e = .returned (.bool false) ∧ w' = w := by
  go_enter Tryz.func134, Tryz.ntmps134
  go_wp2_with fail
  go_ret
  refine ⟨?_, rfl⟩
  rw [show false = (x != x) by simp]
  rfl
theorem cmp_any (x y : Int) (w : World) : Calls Tryz.prog 127 #[.int .u64 x, .int .u64 y] w fun e w' => e = .returned (.int .i64 (cmpI x y)) ∧ w' = w := by
  have HN := Lib.hid nan_any
  unfold cmpI
  by_cases h1 : x < y
  · have hd1 : decide (x < y) = true := decide_eq_true h1
    rw [if_pos h1]
    clear h1
    go_enter Tryz.func127, Tryz.ntmps127
    go_wp2_with (go_at_call 134; refine (HN.out _ _).mono ?_; rintro e w' ⟨rfl, rfl⟩)
    go_ret
    exact ⟨rfl, rfl⟩
  · rw [if_neg h1]
    by_cases h2 : y < x
    · have hd1 : decide (x < y) = false := decide_eq_false h1
      have hd2 : decide (y < x) = true := decide_eq_true h2
      rw [if_pos h2]
      clear h1 h2
      go_enter Tryz.func127, Tryz.ntmps127
      go_wp2_with (go_at_call 134; refine (HN.out _ _).mono ?_; rintro e w' ⟨rfl, rfl⟩)
      go_ret
      exact ⟨rfl, rfl⟩
    · have hd1 : decide (x < y) = false := decide_eq_false h1
      have hd2 : decide (y < x) = false := decide_eq_false h2
      rw [if_neg h2]
      clear h1 h2
      go_enter Tryz.func127, Tryz.ntmps127
      go_wp2_with (go_at_call 134; refine (HN.out _ _).mono ?_; rintro e w' ⟨rfl, rfl⟩)
      go_ret
      exact ⟨rfl, rfl⟩

section
variable {α : Type} [Inhabited α] {enc : α → List Value}
theorem flat_at (h2 : ∀ x, ∃ a b, enc x = [a, b]) : ∀ (l : List α) (t : Nat), t < l.length * 2 → (l.flatMap enc)[t]? = some ((enc l[t / 2]!)[t % 2]!)
  | [], t, h => by simp at h
  | x :: r, t, h => by
    obtain ⟨a, b, e⟩ := h2 x
    rw [List.flatMap_cons, e]
    match t, h with
    | 0, _ => simp [e]
    | 1, _ => simp [e]
    | t + 2, h =>
      have := flat_at h2 r t (by simp at h; omega)
      rw [show (t + 2) / 2 = t / 2 + 1 by omega, show (t + 2) % 2 = t % 2 by omega]
      simpa using this
omit [Inhabited α] in
theorem flat_len (h2 : ∀ x, ∃ a b, enc x = [a, b]) (l : List α) : (l.flatMap enc).length = l.length * 2 := by
  induction l with
  | nil => rfl
  | cons x r ih =>
    obtain ⟨a, b, e⟩ := h2 x
    rw [List.flatMap_cons, e]
    simp [ih]
    omega
theorem holdsK_of_block (h2 : ∀ x, ∃ a b, enc x = [a, b]) {w : World} {g : Nat} {cur : Array Value} {e : TypeId} {ss : List α} (hb : w.heap[g]? = some (.cells cur e (0, 0))) (ht : cur.toList.take (ss.length * 2) = ss.flatMap enc) : HoldsK enc 2 w g 0 ss.toArray := by
  intro j hj
  have hj' : j < ss.length * 2 := by simpa using hj
  refine ⟨?_, by simp [World.frozen?, hb]⟩
  have h1 : (cur.toList.take (ss.length * 2))[j]? = (ss.flatMap enc)[j]? := by rw [ht]
  rw [List.getElem?_take_of_lt hj', flat_at h2 ss j hj'] at h1
  simp only [World.cell?, hb, Nat.zero_add]
  simp only [Option.isSome_none, Bool.false_eq_true, if_false]
  rw [← Array.getElem?_toList, h1, get_flatK _ _ _ _ (by simpa using hj')]
  simp
theorem heap_sortedK {w : World} {g n : Nat} {os : Array Obj} {cur : Array Value} {e : TypeId} {fr : Nat × Nat} (d : Array α) (hb : w.heap[g]? = some (.cells cur e fr)) :
    (sortWorldK enc 2 w g 0 n d os).heap[g]? = some (.cells (putCells id 0 (flatK enc 2 d) cur) e fr) := by
  have hg : g < w.heap.size := (Array.getElem?_eq_some_iff.1 hb).1
  unfold sortWorldK putRowK
  rw [heap_grow_old _ _ (by simpa using hg)]
  simp [putRow, mapBlock, Sort.ahead, Array.getElem?_modify, hb, onCells]
theorem grownBy_sortedK {w : World} {g n : Nat} {os : Array Obj} (d : Array α) : w.grownBy (sortWorldK enc 2 w g 0 n d os) (some g) := by
  refine ⟨rfl, rfl, rfl, by simp [sortWorldK, putRowK], fun k hk hne => ?_⟩
  unfold sortWorldK putRowK
  rw [heap_grow_old _ _ (by simpa using hk)]
  have : g ≠ k := fun e => hne (by rw [e])
  simp [putRow, mapBlock, Sort.ahead, Array.getElem?_modify, this]
theorem take_putCellsK (h2 : ∀ x, ∃ a b, enc x = [a, b]) (cur : Array Value) (ts : List α) (h : ts.length * 2 ≤ cur.size) : (putCells id 0 (flatK enc 2 ts.toArray) cur).toList.take (ts.length * 2) = ts.flatMap enc := by
  apply List.ext_getElem?
  intro j
  by_cases hj : j < ts.length * 2
  · rw [List.getElem?_take_of_lt hj, Array.getElem?_toList, flat_at h2 ts j hj]
    have := get_flatK enc 2 ts.toArray j (by simpa using hj)
    rw [getElem!_pos _ _ (by simpa using hj)] at this
    simp [putCells, hj, show j < cur.size by omega, this]
  · rw [List.getElem?_take_eq_none (by omega), List.getElem?_eq_none (by rw [flat_len h2]; omega)]
/-- Behind the sort the same slice owns the sorted list. -/
theorem ownsRow_sortedK (h2 : ∀ x, ∃ a b, enc x = [a, b]) {w : World} {base g cap n : Nat} {e : TypeId} {os : Array Obj} {cur : Array Value} {ss ts : List α} (hl : ts.length = ss.length) (hbase : base ≤ g) (hb : w.heap[g]? = some (.cells cur e (0, 0)))
    (h1 : ss.length ≤ cap) (h3 : cap ≤ maxLen) (h4 : cur.size = cap * 2) :
    (sortWorldK enc 2 w g 0 n ts.toArray os).ownsRow base e 2 (.slice (some ⟨g, 0, none⟩) ss.length cap) ss.length (ts.flatMap enc) :=
  ⟨by rw [flat_len h2, hl], .inr ⟨g, cap, _, rfl, hbase, heap_sortedK _ hb, h1, h3, by simp [putCells, h4], by rw [← hl]; exact take_putCellsK h2 cur ts (by omega)⟩⟩
end
end Go.Proofs.YtalhlopjaijhcaaGreat

namespace Go.Proofs.YtalhlopjaijhcaaGreat.oU
open Go.RowKit Go.Maps Go.Sort

attribute [local go_sem] Oper.semAt_some

/-- A touch as it lies in a row. -/
def encE (e : Ent) : List Value := [kv e.k, .int .u64 (e.t : Int)]
theorem encE_two (e : Ent) : ∃ a b, encE e = [a, b] := ⟨_, _, rfl⟩
theorem encE_one (e : Ent) : ∀ v ∈ encE e, v.oneCell' = true := by intro v hv; simp [encE] at hv; rcases hv with rfl | rfl <;> rfl

/-- What a range over the map has met. -/
structure Coll (D : DataW Value) (L : List Ent) (left : Lit → Bool) (ss : List Ent) (cnt : Nat) : Prop where
  nd : (ss.map (·.k)).Nodup
  old : ∀ e ∈ ss, e ∈ L ∧ left (kl e.k) = false
  rest : ∀ e ∈ L, e ∈ ss ∨ left (kl e.k) = true
  num : ss.length + cnt ≤ L.length
theorem ent_eq {L : List Ent} (hnd : (L.map (·.k)).Nodup) {a b : Ent} (ha : a ∈ L) (hb : b ∈ L) (e : a.k = b.k) : a = b := by
  induction L with
  | nil => cases ha
  | cons x r ih =>
    rw [List.map_cons, List.nodup_cons] at hnd
    rcases List.mem_cons.1 ha with rfl | ha'
    · rcases List.mem_cons.1 hb with rfl | hb
      · rfl
      · exact absurd (show a.k ∈ r.map (·.k) from List.mem_map.2 ⟨b, hb, e.symm⟩) hnd.1
    · rcases List.mem_cons.1 hb with rfl | hb'
      · exact absurd (show b.k ∈ r.map (·.k) from List.mem_map.2 ⟨a, ha', e⟩) hnd.1
      · exact ih hnd.2 ha' hb'
theorem Coll.start {D : DataW Value} {L : List Ent} (h : Vw D L) : Coll D L (has D) [] (size D) := ⟨by simp, by simp, fun e he => .inr (h.has he), by rw [h.sz]; simp⟩
theorem Coll.step {D : DataW Value} {L : List Ent} {left : Lit → Bool} {ss : List Ent} {cnt cnt' : Nat} (h : Coll D L left ss cnt) (hv : Vw D L) {l : Lit} {x : K × Int} {y : DataW Value × List MemPlace}
    (hl : left l = true) (hx : rd (rv x.1 x.2) = some y) (hat : ∀ zd, D.atKey l zd = y.1) (hc : cnt' < cnt) : ∃ e : Ent, x = (e.k, (e.t : Int)) ∧ Coll D L (fun z => left z && !z.sameKey l) (ss ++ [e]) cnt' := by
  obtain ⟨e, he, rfl⟩ := hv.all l (has_true_of_atKey hat)
  have hk := (hv.mem e he).1
  rw [rd_mk] at hx
  have h1 := hat (.held (.bool true))
  rw [(hv.mem e he).2] at h1
  cases hx
  obtain ⟨xk, xt⟩ := x
  have e2 : xk = e.k ∧ xt = (e.t : Int) := by simp at h1; exact ⟨Int.ofNat.inj h1.1.symm, h1.2.symm⟩
  refine ⟨e, by rw [e2.1, e2.2], ?_⟩
  have hnew : e.k ∉ ss.map (·.k) := fun hm => by
    obtain ⟨s, hs, e3⟩ := List.mem_map.1 hm
    have := (h.old s hs).2
    rw [e3, hl] at this
    cases this
  refine ⟨?_, fun s hs => ?_, fun e' he' => ?_, by have := h.num; simp; omega⟩
  · rw [List.map_append, List.nodup_append]
    exact ⟨h.nd, by simp, fun a ha b hb => by simp at hb; subst hb; exact fun e1 => hnew (e1 ▸ ha)⟩
  · rcases List.mem_append.1 hs with hm | hm
    · exact ⟨(h.old s hm).1, by simp [(h.old s hm).2]⟩
    · obtain rfl : s = e := by simpa using hm
      exact ⟨he, by simp [WideAt.sameKey_self (is_key s.k)]⟩
  · by_cases e3 : e' = e
    · exact .inl (by simp [e3])
    · rcases h.rest e' he' with h2 | h2
      · exact .inl (by simp [h2])
      · exact .inr (by simp [h2, sameKey_ne (fun e4 => e3 (ent_eq hv.nd he' he (kl_inj (hv.mem e' he').1 hk e4)))])
theorem nodup_of_map {β γ : Type} (f : β → γ) : ∀ {l : List β}, (l.map f).Nodup → l.Nodup
  | [], _ => List.nodup_nil
  | x :: r, h => by
    rw [List.map_cons, List.nodup_cons] at h
    exact List.nodup_cons.2 ⟨fun hm => h.1 (List.mem_map.2 ⟨x, hm, rfl⟩), nodup_of_map f h.2⟩
theorem Coll.perm {D : DataW Value} {L : List Ent} {left : Lit → Bool} {ss : List Ent} {cnt : Nat} (h : Coll D L left ss cnt) (hv : Vw D L) (hl : ∀ l, left l = false) : ss.Perm L := by
  refine (List.perm_ext_iff_of_nodup (nodup_of_map _ h.nd) (nodup_of_map _ hv.nd)).2 fun e => ⟨fun he => (h.old e he).1, fun he => ?_⟩
  rcases h.rest e he with h1 | h1
  · exact h1
  · rw [hl] at h1; cases h1

/-- Two touches, by when they were. -/
theorem when_any (x y : Ent) (W : World) : Calls Tryz.prog 126 #[.agg (encE x).toArray, .agg (encE y).toArray] W fun e w' => e = .returned (.int .i64 (cmpI (x.t : Int) (y.t : Int))) ∧ ∃ q os', w' = grow (W.drewN q) os' := by
  have hcon := fun W' => cmp_any (x.t : Int) (y.t : Int) W'
  generalize cmpI (x.t : Int) (y.t : Int) = r at hcon ⊢
  unfold encE
  go_enter Tryz.func126, Tryz.ntmps126
  go_wp2_with (go_at_call 127; refine (hcon _).mono ?_; rintro e w' ⟨rfl, rfl⟩)
  go_ret
  exact ⟨rfl, 0, _, by rw [alloc_eq_grow, alloc_eq_grow, grow_grow]; rfl⟩

def cmpE {L : List Ent} (x y : {e // e ∈ L}) : Int := cmpI (x.1.t : Int) (y.1.t : Int)
theorem lt_cmpE {L : List Ent} (x y : {e // e ∈ L}) : ltOf cmpE x y = decide (x.1.t < y.1.t) := by
  unfold ltOf cmpE cmpI
  rw [Bool.eq_iff_iff]
  simp only [decide_eq_true_eq]
  split
  · omega
  · split <;> omega
theorem swo_cmpE (L : List Ent) : SWO (ltOf (cmpE (L := L))) := by
  refine ⟨fun x => ?_, fun x y z h1 h2 => ?_, fun x y z h1 h2 => ?_⟩
  · rw [lt_cmpE]; simp
  · rw [lt_cmpE, decide_eq_true_eq] at *; omega
  · rw [lt_cmpE, decide_eq_false_iff_not] at *; omega
theorem up_inj {L : List Ent} (h : L.Pairwise fun a b => a.t < b.t) {a b : Ent} (ha : a ∈ L) (hb : b ∈ L) (e : a.t = b.t) : a = b := by
  induction L with
  | nil => cases ha
  | cons x r ih =>
    rw [List.pairwise_cons] at h
    rcases List.mem_cons.1 ha with rfl | ha'
    · rcases List.mem_cons.1 hb with rfl | hb
      · rfl
      · have := h.1 b hb; omega
    · rcases List.mem_cons.1 hb with rfl | hb'
      · have := h.1 a ha'; omega
      · exact ih h.2 ha' hb'
theorem isAggT (w : World) : (isAgg 163).run Tryz.prog w = .ok true w := by kernel_rfl
theorem sizeT (w : World) : (Go.sizeOf 163).run Tryz.prog w = .ok 2 w := by kernel_rfl

/-- slices.SortFunc over touches: they rise behind it. -/
theorem sort_any {w : World} {base n : Nat} {L ss : List Ent} (hr : Ris n L) (hp : ss.Perm L) {v : Value} (hown : w.ownsRow base 163 2 v ss.length (ss.flatMap encE)) (hlen : ss.length ≤ 2048) :
    Calls Tryz.prog 125 #[v, .func (.func 126) #[] #[]] w fun e w' => e = .returned (.tuple #[]) ∧ w'.ownsRow base 163 2 v L.length (L.flatMap encE) ∧ w.grownBy w' v.ownBlock := by
  by_cases hy : ss = []
  · subst hy
    obtain rfl := List.nil_perm.1 hp
    obtain ⟨a, cp, rfl⟩ := own_form hown
    refine (AnyF.slices_SortFunc_none Tryz.laysTU a cp _ w).mono ?_
    rintro e w' ⟨rfl, rfl⟩
    exact ⟨rfl, hown, ⟨rfl, rfl, rfl, Nat.le_refl _, fun _ _ _ => rfl⟩⟩
  · rcases hown.2 with ⟨_, h0⟩ | ⟨g, cap, cur, rfl, hbase, hg, k2, k3, k4, k5⟩
    · exact absurd (List.length_eq_zero_iff.1 h0) hy
    obtain ⟨y0, hy0⟩ := List.exists_mem_of_ne_nil _ hy
    letI : Inhabited {e // e ∈ L} := ⟨⟨y0, hp.mem_iff.1 hy0⟩⟩
    obtain ⟨ys, hys⟩ : ∃ ys : List {e // e ∈ L}, ys.map (·.1) = ss := ⟨ss.pmap Subtype.mk (fun e he => hp.mem_iff.1 he), by rw [List.map_pmap]; simp⟩
    have hgl : g < w.heap.size := (Array.getElem?_eq_some_iff.1 hg).1
    have eg : ∀ args w, (callFunc 126 args).run Tryz.prog w = .ok (.enter 126 args) w := enters_of Tryz.func126 (by kernel_rfl) rfl
    have hyl : ys.length = ss.length := by rw [← hys]; simp
    have h2 : ∀ y : {e // e ∈ L}, ∃ a b, encE y.1 = [a, b] := fun y => encE_two y.1
    have hfl : ∀ zs : List {e // e ∈ L}, zs.flatMap (fun y => encE y.1) = (zs.map (·.1)).flatMap encE := fun zs => by rw [List.flatMap_map]
    have hH : HoldsK (fun y : {e // e ∈ L} => encE y.1) 2 w g 0 ys.toArray := holdsK_of_block h2 hg (by rw [hyl, hfl, hys]; exact k5)
    have hcon := AnyQ.slices_SortFunc_total Tryz.laysTU 2 isAggT sizeT (fun y : {e // e ∈ L} => encE y.1) (fun _ => rfl) (fun y => encE_one y.1) cmpE (swo_cmpE L) 126 #[] g 0 cap ys.toArray w eg (fun _ _ _ _ x y => when_any x.1 y.1 _) hH hgl (by simp; omega) (fun x y e1 e2 => by
      rw [lt_cmpE, decide_eq_false_iff_not] at e1 e2
      exact Subtype.ext (up_inj hr.up x.2 y.2 (by omega)))
    rw [List.size_toArray, hyl] at hcon
    refine hcon.mono ?_
    rintro e w' ⟨rfl, m, os, rfl⟩
    have hq := List.mergeSort_perm ys (fun x y => !(ltOf cmpE) y x)
    have hL : (ys.mergeSort fun x y => !(ltOf cmpE) y x).map (·.1) = L := by
      refine rising_eq ((hq.map _).trans (hys ▸ hp)) ?_ hr.up
      rw [List.pairwise_map]
      refine (List.pairwise_mergeSort (le := fun x y => !(ltOf (cmpE (L := L))) y x) (fun a b c e1 e2 => ?_) (fun a b => ?_) ys).imp (fun {a b} e => ?_)
      · rw [Bool.not_eq_true', lt_cmpE, decide_eq_false_iff_not] at *; omega
      · simp only [lt_cmpE, Bool.or_eq_true, Bool.not_eq_true', decide_eq_false_iff_not]; omega
      · rw [Bool.not_eq_true', lt_cmpE, decide_eq_false_iff_not] at e; omega
    refine ⟨rfl, ?_, grownBy_sortedK _⟩
    have := ownsRow_sortedK h2 (n := m) (os := os) (ss := ys) (ts := ys.mergeSort fun x y => !(ltOf cmpE) y x) (by simp) hbase hg (by rw [hyl]; exact k2) k3 k4
    rw [hfl, hL, hyl] at this
    rwa [← hp.length_eq]

theorem two_at {w : World} {b : Nat} {u v : Value} (h : Box2 w b u v) : ∀ (j : Nat) (x : Value), [u, v][j]? = some x → w.cell? ((⟨b, 0, none⟩ : Addr).add j) = some x := by
  intro j x hx
  rw [addr_add, Nat.zero_add]
  match j, hx with
  | 0, hx => simp at hx; subst hx; exact h.c0
  | 1, hx => simp at hx; subst hx; exact h.c1
  | j + 2, hx => simp at hx
theorem gath_nil (w : World) : Calls Tryz.prog 104 #[.pointer none] w fun r w' => r = .returned (.slice none 0 0) ∧ w' = w := by
  go_enter Tryz.func104, Tryz.ntmps104
  go_wp2_with fail
  go_ret
  exact ⟨rfl, rfl⟩

theorem infoT : (Tryz.prog.info? 163).map (fun i => (i.zero, i.size, i.bytes)) = some (some (rv k0 0), 2, 16) := by kernel_rfl

set_option maxRecDepth 100000 in
set_option maxHeartbeats 2000000 in
theorem gath_any {w : World} {R M room n : Nat} {L : List Ent} (h : OR w R M room n L) :
    Calls Tryz.prog 104 #[.pointer (some ⟨R, 0, none⟩)] w fun r w' => ∃ g cap, r = .returned (.slice (some ⟨g, 0, none⟩) L.length cap) ∧ w'.ownsRow w.heap.size 163 2 (.slice (some ⟨g, 0, none⟩) L.length cap) L.length (L.flatMap encE) ∧ Below w.heap.size w w' := by
  obtain ⟨i0, hi, hz0, hz1, hz2⟩ := info_parts infoT
  obtain ⟨D, hown, hv⟩ := h.own
  have r2 := h.c2
  have hbl := hown.lt
  have HV := Lib.hid hv
  have HLn := Lib.hid (show L.length ≤ 64 from Nat.le_trans h.hl h.hr.2)
  have HRs := Lib.hid h.ris
  have hmax : size D ≤ maxLen := by rw [hv.sz]; have := HLn.out; unfold maxLen; omega
  have hbytes : size D ≤ 64 := by rw [hv.sz]; exact HLn.out
  obtain ⟨m, hm⟩ : ∃ m, m = L.length := ⟨_, rfl⟩
  rw [← hm] at hown
  clear h hv hm
  go_enter Tryz.func104, Tryz.ntmps104
  go_wp2_with (first
    | (at_len; refine wpList_len_own _ rfl _ 136 rfl 165 163 Tryz.underlying136 _ M m D rfl hown ?_)
    | (at_make; refine wpList_make_own _ rfl _ _ 185 rfl w.heap.size 163 i0 (rv k0 0) 2 Tryz.underlying185 hi hz0 hz1 _ _ _ (size D) rfl rfl rfl (by rw [hz2]; omega) hmax (Nat.le_refl _) ?_; intro w1 hrow1 hg1; have r2' := hg1.cell r2 (by simp))
    | (at_range; refine wpList_range_own _ rfl _ 136 rfl 165 163 law Tryz.underlying136 _ M m D rfl (hown.kept hg1 (by simp)) ?_; intro w0 hrg0 hg0 hs0)
    | fail)
  go_frame
  go_loopw [3] (fun v wr => ∃ (left : Lit → Bool) (cnt : Nat) (ss : List Ent), wr.ranges Tryz.prog 165 rd M w1.heap.size m D left cnt ∧ wr.ownsRow w.heap.size 163 2 v ss.length (ss.flatMap encE) ∧ v ≠ .slice none 0 0 ∧ Coll D L left ss cnt ∧ Below w.heap.size w wr)
    (fun _ wr => wr.rangeLeft M w1.heap.size)
  case atStart =>
    exact ⟨_, _, [], hrg0, hrow1.kept hg0 (Or.inr (by simp [Value.ownBlock])), by simp, Coll.start HV.out, ((Below.refl _ _).grown hg1 (Nat.le_refl _) (fun j hj => by cases hj)).grown hg0 hg1.size (fun j hj => by cases hj)⟩
  case round =>
    obtain ⟨left, cnt, ss, hrg, hrow, hnn, hC, hnx⟩ := hrel
    have HW1 := Lib.hid hg1.size
    clear hrow1 hg1 hg0 hrg0 hs0 r2 r2'
    go_wp2_with (first
      | (at_next; refine wpList_next_ranges _ rfl _ rfl 165 law rd (fun v : Value => v) (fun c : K × Int => rv c.1 c.2) (fun key kl hk => ⟨key, rfl⟩) (fun v y hv => rd_inv hv) M w1.heap.size m _ _ _ rfl hrg ?_ ?_)
      | fail)
    · intro hc0 hl0
      have hp := hC.perm HV.out hl0
      have HS := Lib.hid (sort_any HRs.out hp hrow (by have := hp.length_eq; have := HLn.out; omega))
      have HLe := Lib.hid hp.length_eq
      have HNx := Lib.hid hnx
      have HRow := Lib.hid hrow
      obtain ⟨g, cap, rfl⟩ := own_some hrow hnn
      clear hC hp hnx hrow hrg
      go_wp2_with (go_at_call 125; refine HS.out.mono ?_; rintro e w' ⟨rfl, hrow', hgr⟩; have HRw := Lib.hid hrow'; have HGr := Lib.hid hgr; clear hrow' hgr)
      go_ret
      have hrw := HRw.out
      rw [HLe.out] at *
      exact ⟨g, cap, rfl, hrw, HNx.out.grown HGr.out HNx.out.size (fun j hj => (HRow.out.lt j hj).1)⟩
    · intro key k x l yd yp w2 cnt2 hkey hlk hv2 hat hrg2 hlt hg2 hs2 hen
      obtain ⟨e, hx, hC2⟩ := hC.step (x := (k, x)) (y := (yd, yp)) HV.out hlk hv2 hat hlt
      obtain ⟨rfl, rfl⟩ : k = e.k ∧ x = (e.t : Int) := by simpa using hx
      have HC2 := Lib.hid hC2
      have hrow2 := hrow.kept hg2 (Or.inr (row_ne_iter hrow hrg).symm)
      have HLt := Lib.hid hlt
      have HSl := Lib.hid (show ss.length + 1 ≤ 64 by have := hC.num; have := HLn.out; omega)
      have HOn := Lib.hid (show Box2 ((w2.alloc (.cells #[kv e.k, .int .u64 (e.t : Int)] 163)).alloc (.cells #[kv e.k, .int .u64 (e.t : Int)] 163)) (w2.heap.size + 1) (kv e.k) (.int .u64 (e.t : Int)) by
        have := Box2.new (w2.alloc (.cells #[kv e.k, .int .u64 (e.t : Int)] 163)) (kv e.k) (.int .u64 (e.t : Int)) 163
        rwa [World.size_alloc] at this)
      have HB2 := Lib.hid (hnx.grown hg2 hnx.size (fun j hj => by cases hj; exact HW1.out))
      have HLeft := Lib.hid (And.intro hrg.left_eq hrg2)
      clear hs2 hlt hv2 hat hlk hkey hC hg2 hrg hnx hx hC2
      go_wp2_with (first
        | (at_builtin; refine wpList_append_own _ rfl _ _ 185 rfl w.heap.size 163 i0 (rv k0 0) 2 16 Tryz.underlying185 hi hz0 hz1 hz2 rfl (by decide) _ _ _ rfl ((hrow2.alloc _).alloc _) ⟨w2.heap.size + 1, 0, none⟩ 1 1 (encE e) rfl rfl (two_at HOn.out) (encE_one e) (by have := HSl.out; unfold maxLen; omega) (by have := HSl.out; omega) (by have := HB2.out.size; simp; omega) ?_; intro v' w3 hown' hg3 hnil3; go_frame)
        | fail)
      have hrg2 := HLeft.out.2
      have hrg3 := ((hrg2.alloc _).alloc _).kept hg3 (row_ne_low hrow2 hbl) (row_ne_iter hrow2 hrg2)
      have hle := HLeft.out.1
      have hlt := HLt.out
      have hw2 := HB2.out.size
      go_roundw
      case rel =>
        refine ⟨_, cnt2, ss ++ [e], hrg3, by rw [List.flatMap_append]; simpa using hown', fun hv' => hnn (hnil3.1 hv').1, HC2.out, ?_⟩
        exact (((HB2.out.alloc hw2 _).alloc (by simp; omega) _).grown hg3 (by simp; omega) (fun j hj => (hrow2.lt j hj).1))
      case measure => rw [hrg3.left_eq, hle]; exact hlt
end Go.Proofs.YtalhlopjaijhcaaGreat.oU

namespace Go.Proofs.YtalhlopjaijhcaaGreat.oU
open Go.RowKit Go.Maps Go.Sort Go.Shelf

attribute [local go_sem] Oper.semAt_some

/-- An order that may be nil. -/
def OG (w : World) (p : Option Addr) (L : List Ent) : Prop := (p = none ∧ L = []) ∨ ∃ R M room n, p = some ⟨R, 0, none⟩ ∧ OR w R M room n L
theorem OG.quiet {w w' : World} {p : Option Addr} {L : List Ent} (h : OG w p L) (hc : Ch [] w w') : OG w' p L := by
  rcases h with h | ⟨R, M, room, n, rfl, h⟩
  · exact .inl h
  · exact .inr ⟨R, M, room, n, rfl, h.quiet hc⟩
theorem OG.le {w : World} {p : Option Addr} {L : List Ent} (h : OG w p L) : L.length ≤ 64 := by
  rcases h with ⟨_, rfl⟩ | ⟨R, M, room, n, rfl, h⟩
  · simp
  · exact Nat.le_trans h.hl h.hr.2
theorem OG.len {w : World} {p : Option Addr} {L : List Ent} (h : OG w p L) : Calls Tryz.prog 75 #[.pointer p] w fun e w' => e = .returned (.int .i64 (L.length : Int)) ∧ w' = w := by
  rcases h with ⟨rfl, rfl⟩ | ⟨R, M, room, n, rfl, h⟩
  · exact len_nil w
  · exact len_any h
theorem OG.gath {w : World} {p : Option Addr} {L : List Ent} (h : OG w p L) : Calls Tryz.prog 104 #[.pointer p] w fun r w' => ∃ a cap, r = .returned (.slice a L.length cap) ∧ w'.ownsRow w.heap.size 163 2 (.slice a L.length cap) L.length (L.flatMap encE) ∧ Ch [] w w' := by
  rcases h with ⟨rfl, rfl⟩ | ⟨R, M, room, n, rfl, h⟩
  · refine (gath_nil w).mono ?_
    rintro e w' ⟨rfl, rfl⟩
    exact ⟨none, 0, rfl, ⟨rfl, .inl ⟨rfl, rfl⟩⟩, Ch.refl _ _⟩
  · refine (gath_any h).mono ?_
    rintro e w' ⟨g, cap, rfl, hr, hb⟩
    exact ⟨_, cap, rfl, hr, Ch.of_below hb⟩

theorem keys_in (n : Nat) (p : Option Addr) (w : World) :
    CallsIn Fence.wide n Tryz.prog 76 #[.pointer p] w fun e w' => e = .returned (.func (.func 103) #[] #[.pointer (some ⟨w.heap.size, 0, none⟩)]) ∧ w' = w.alloc (.cells #[.pointer p] 78) := by
  refine callsIn_of_wp Tryz.func76 rfl trivial ?_ rfl
  simp only [Tryz.ntmps76, List.size_toArray, List.length_cons, List.length_nil, Nat.reduceAdd, Nat.reduceSub, Array.replicate_succ, Array.replicate_zero, List.push_toArray, List.append_toArray, List.nil_append, List.cons_append]
  gi_wp2
  go_ret
  exact ⟨rfl, rfl⟩

theorem ks_take (L : List Ent) {k : Nat} {e : Ent} (h : L[k]? = some e) : (ks L).take (k + 1) = (ks L).take k ++ [e.k] := by
  obtain ⟨hlt, rfl⟩ := List.getElem?_eq_some_iff.1 h
  rw [List.take_succ_eq_append_getElem (by rw [show (ks L).length = L.length by simp [ks]]; exact hlt)]
  simp [ks]
theorem row_cells {w : World} {D : Nat} {v : Value} {L : List Ent} (h : w.ownsRow D 163 2 v L.length (L.flatMap encE)) {k : Nat} {e : Ent} (hk : L[k]? = some e) :
    ∃ g cap, v = .slice (some ⟨g, 0, none⟩) L.length cap ∧ w.cell? ⟨g, k * 2, none⟩ = some (kv e.k) ∧ w.cell? ⟨g, k * 2 + 1, none⟩ = some (.int .u64 (e.t : Int)) := by
  obtain ⟨hlt, he⟩ := List.getElem?_eq_some_iff.1 hk
  letI : Inhabited Ent := ⟨e⟩
  have h0 := flat_at encE_two L (k * 2) (by omega)
  have h1 := flat_at encE_two L (k * 2 + 1) (by omega)
  rw [show k * 2 / 2 = k by omega, show k * 2 % 2 = 0 by omega, getElem!_pos L k hlt, he] at h0
  rw [show (k * 2 + 1) / 2 = k by omega, show (k * 2 + 1) % 2 = 1 by omega, getElem!_pos L k hlt, he] at h1
  rcases h.2 with ⟨_, h2⟩ | ⟨g, cap, cur, rfl, _⟩
  · omega
  · exact ⟨g, cap, rfl, by rw [World.ownsRow.cellAt h (k * 2) (by omega)]; exact h0, by rw [World.ownsRow.cellAt h (k * 2 + 1) (by omega)]; exact h1⟩

set_option maxRecDepth 100000 in
set_option maxHeartbeats 1000000 in
theorem keys1_in (n l Bn : Nat) (p : Option Addr) (L : List Ent) (J Jx : List K → World → Prop) (hJ : ∀ pre W W', J pre W → Ch [] W W' → J pre W')
    (hY : ∀ pre x W, J pre W → pre ++ [x] <+: ks L → YieldAt Fence.wide (n - 1) Tryz.prog l #[kv x] W fun e W' => (e = .returned (.bool true) ∧ J (pre ++ [x]) W' ∧ KpT 163 W W') ∨ (e = .returned (.bool false) ∧ Jx (pre ++ [x]) W'))
    (W : World) (hb : W.cell? ⟨Bn, 0, none⟩ = some (.pointer p)) (hO : OG W p L) (h0 : J [] W) :
    CallsIn Fence.wide n Tryz.prog 103 #[.func (.yield l) #[] #[], .pointer (some ⟨Bn, 0, none⟩)] W fun e W' => (∃ v, e = .returned v) ∧
      ((∃ ys, ys = ks L ∧ J ys W') ∨ (∃ pre, pre <+: ks L ∧ Jx pre W')) := by
  have HY := Lib.hid hY
  have HJ := Lib.hid hJ
  have HG := Lib.hid hO.gath
  have HLe := Lib.hid hO.le
  obtain ⟨m, hm⟩ : ∃ m, m = L.length := ⟨_, rfl⟩
  have HM := Lib.hid hm
  have H0 := Lib.hid h0
  rw [← hm] at HG HLe
  clear hY hJ hO hm h0
  refine callsIn_of_wp Tryz.func103 rfl trivial ?_ rfl
  simp only [Tryz.ntmps103, List.size_toArray, List.length_cons, List.length_nil, Nat.reduceAdd, Nat.reduceSub, Array.replicate_succ, Array.replicate_zero, List.push_toArray, List.append_toArray, List.nil_append, List.cons_append]
  have hw : ∀ f, Fence.wide.fn f := fun _ => trivial
  have hd : Fence.wide.depth = none := rfl
  gi_wp2_with (first | (gi_at_call 104; refine (callsIn_wide.2 HG.out).mono ?_; rintro e w1 ⟨a, cap, rfl, hrow, hc⟩; have HR := Lib.hid hrow; have HC := Lib.hid hc; clear hrow hc) | fail)
  have hm64 := HLe.out
  gi_loopw [8] (fun r wr => ∃ k : Nat, k ≤ m ∧ r = .int .i64 (k : Int) ∧ J ((ks L).take k) wr ∧ wr.ownsRow W.heap.size 163 2 (.slice a m cap) m (L.flatMap encE))
    (fun r _ => m - (intOf r).toNat)
  case atStart =>
    exact ⟨0, Nat.zero_le _, rfl, HJ.out _ _ _ H0.out HC.out, HR.out⟩
  case round =>
    obtain ⟨k, hk, rfl, hJk, hrow⟩ := hrel
    have HJk := Lib.hid hJk
    have HRk := Lib.hid hrow
    clear hJk hb
    by_cases hlt : k < m
    · obtain ⟨e, he⟩ : ∃ e, L[k]? = some e := ⟨_, List.getElem?_eq_getElem (by rw [← HM.out]; exact hlt)⟩
      have hrow' := hrow
      rw [HM.out] at hrow'
      obtain ⟨g, cap', ev, hc0, hc1⟩ := row_cells hrow' he
      obtain ⟨rfl, rfl⟩ : a = some ⟨g, 0, none⟩ ∧ cap = cap' := by simpa [HM.out] using ev
      have HT := Lib.hid (ks_take L he)
      have HPr := Lib.hid (show (ks L).take k ++ [e.k] <+: ks L by rw [← ks_take L he]; exact List.take_prefix _ _)
      clear hrow hrow' he ev
      have hb0 : (0 : Int) ≤ (k : Int) := by omega
      have hb1 : (k : Int) < (m : Int) := by omega
      have hal : Ch [] wr (wr.alloc (.cells #[kv e.k, .int .u64 (e.t : Int)] 163)) := (Ch.refl [] wr).alloc _
      obtain ⟨fn, tmps, assign, body, hy, hR⟩ := HY.out ((ks L).take k) e.k (wr.alloc (.cells #[kv e.k, .int .u64 (e.t : Int)] 163)) (HJ.out _ _ _ HJk.out hal) HPr.out
      have HRk2 := Lib.hid (HRk.out.alloc (.cells #[kv e.k, .int .u64 (e.t : Int)] 163))
      clear hal
      gi_wp2
      refine hR.mono ?_
      rintro e' W3 (⟨rfl, hJ3, hk3⟩ | ⟨rfl, hJx3⟩)
      · have HK := Lib.hid hk3
        clear hk3
        gi_wp2
        go_roundw
        case rel =>
          exact ⟨k + 1, by omega, by go_num, by rw [HT.out]; exact hJ3, own_kpT HRk2.out HK.out⟩
        case measure => simp [intOf]; omega
      · gi_wp2
        refine bodyPost_ret (results_none rfl _ _ _) rfl ?_
        exact ⟨⟨_, rfl⟩, .inr ⟨_, HPr.out, hJx3⟩⟩
    · gi_wp2
      go_end0
      obtain rfl : k = m := by omega
      exact ⟨⟨_, rfl⟩, .inl ⟨_, rfl, by have := HJk.out; rwa [List.take_of_length_le (by rw [show (ks L).length = L.length by simp [ks], ← HM.out]; exact Nat.le_refl _)] at this⟩⟩

theorem keys_stops (n : Nat) {Bn : Nat} {p : Option Addr} {L : List Ent} (w : World) (hb : w.cell? ⟨Bn, 0, none⟩ = some (.pointer p)) (hO : OG w p L) :
    SeqP Fence.wide n Tryz.prog 103 #[.pointer (some ⟨Bn, 0, none⟩)] (fun x : K => #[kv x]) (Ch []) (KpT 163) (fun ys => ys = ks L) (fun pre => pre <+: ks L) w := fun l J Jx W hW hJ hY h0 =>
  keys1_in n l Bn p L J Jx hJ hY W ((hW.cell (p := ⟨Bn, 0, none⟩) (cell_lt hb)).trans hb) (hO.quiet (Ch.of_below hW)) h0
end Go.Proofs.YtalhlopjaijhcaaGreat.oU

namespace Go.Proofs.YtalhlopjaijhcaaGreat.oU
open Go.RowKit Go.Maps Go.Sort Go.Shelf

attribute [local go_sem] Oper.semAt_some

def kvs (l : List K) : List Value := l.map kv
theorem infoE : (Tryz.prog.info? 40).map (fun i => (i.zero, i.size, i.bytes)) = some (some (kv k0), 1, 8) := by kernel_rfl
theorem kvs_one (l : List K) : ∀ v ∈ kvs l, v.oneCell' = true := by intro v hv; obtain ⟨k, _, rfl⟩ := List.mem_map.1 hv; rfl

set_option maxRecDepth 100000 in
set_option maxHeartbeats 2000000 in
theorem list_in (n : Nat) (p : Option Addr) (L : List Ent) (w : World) (hO : OG w p L) :
    CallsIn Fence.wide (n + 6) Tryz.prog 48 #[.pointer p] w fun e W' =>
      ∃ v, e = .returned v ∧ W'.ownsRow w.heap.size 40 1 v (ks L).length (kvs (ks L)) ∧ Ch [] w W' := by
  have h64 := hO.le
  have HO := Lib.hid hO
  have HLen := Lib.hid hO.len
  obtain ⟨m, hm⟩ : ∃ m, m = L.length := ⟨_, rfl⟩
  have HM := Lib.hid (show m = (ks L).length by rw [hm]; simp [ks])
  rw [← hm] at h64 HLen
  clear hO hm
  have hw : ∀ f, Fence.wide.fn f := fun _ => trivial
  have hd : Fence.wide.depth = none := rfl
  have h1 : 1 ≤ n + 6 := by omega
  obtain ⟨i0, hi, hz0, hz1, hz2⟩ := info_parts infoE
  refine callsIn_of_wp_marks Tryz.func48 rfl trivial ?_ rfl
  simp only [Tryz.ntmps48, List.size_toArray, List.length_cons, List.length_nil, Nat.reduceAdd, Nat.reduceSub, Array.replicate_succ, Array.replicate_zero, List.push_toArray, List.append_toArray, List.nil_append, List.cons_append]
  gi_wp2_with (first | (gi_at_call 75; refine (callsIn_wide.2 HLen.out).mono ?_; rintro e w' ⟨rfl, hww⟩; subst w') | (gi_at_make; refine wpListIn_make_own _ rfl _ _ 26 rfl w.heap.size 40 i0 (kv k0) 1 Tryz.underlying26 hi hz0 hz1 _ _ _ m rfl rfl rfl (by rw [hz2]; omega) (by unfold maxLen; omega) (Nat.le_refl _) ?_; intro w1 hown hgrow) | (gi_at_call 76; refine (keys_in _ _ _).mono ?_; rintro e w' ⟨rfl, rfl⟩))
  obtain ⟨W2, hW2⟩ : ∃ W2, W2 = w1.alloc (.cells #[.slice (some ⟨w.heap.size, 0, none⟩) 0 m] 26) := ⟨_, rfl⟩
  obtain ⟨W0, hW0⟩ : ∃ W0, W0 = W2.alloc (.cells #[.pointer p] 78) := ⟨_, rfl⟩
  have s2 : W2.heap.size = w1.heap.size + 1 := by rw [hW2]; simp
  have hsz : W0.heap.size = w1.heap.size + 1 + 1 := by rw [hW0]; simp [s2]
  have hc1 : Ch [] w w1 := (Ch.refl [] w).kept hgrow (by simp)
  have q2 : Ch [] w1 W2 := by rw [hW2]; exact (Ch.refl [] _).alloc _
  have q0 : Ch [] W2 W0 := by rw [hW0]; exact (Ch.refl [] _).alloc _
  have hc0 : Ch [] w W0 := (hc1.trans q2).trans q0
  have hs1 := hc1.size
  obtain ⟨B, hB⟩ : ∃ B, B = w1.heap.size := ⟨_, rfl⟩
  have bO : Boxed W0 B 26 (.slice (some ⟨w.heap.size, 0, none⟩) 0 m) := by
    rw [hW0, hW2, hB]; exact (Boxed.new w1 _ _).alloc _
  have bN : Boxed W0 (B + 1) 78 (.pointer p) := by
    rw [hW0, hB, ← s2]; exact Boxed.new W2 _ _
  have hown0 : W0.ownsRow w.heap.size 40 1 (.slice (some ⟨w.heap.size, 0, none⟩) 0 m) 0 [] := by
    rw [hW0, hW2]; exact (hown.alloc _).alloc _
  rw [← hW2, ← hW0]
  rw [← hB] at hsz hs1 ⊢
  clear hW0 hW2 s2 q2 q0 hB hc1 hown hgrow
  refine wpIn_range_p rfl h1 (gf := 103) (lb := #[.pointer (some ⟨B + 1, 0, none⟩)]) rfl trivial (enters_of Tryz.func103 (by kernel_rfl) rfl)
    (keys_stops (n + 6 - 1) W0 bN.cell (HO.out.quiet hc0))
    (fun A B hAB k o hk _ _ => (hAB.block k (Array.getElem?_eq_some_iff.1 hk).1 (by simp)).trans hk)
    (fun h g => h.trans g) (fun W l o o' _ ho hc _ _ => KpT.put W l o o' ho hc) (fun _ => rfl)
    (fun pre W => (∃ v, Boxed W B 26 v ∧ W.ownsRow w.heap.size 40 1 v pre.length (kvs pre) ∧ True) ∧ Ch [] w W)
    (fun _ _ _ => False)
    (OwnFrom.and (Own.from (holdsRow_own w.heap.size B 26 40 1 (fun pre : List K => pre.length) (fun pre => kvs pre) (fun _ _ => True)) _) (ownFrom_ch (by omega)))
    (fun s A B' hs hc => by
      obtain ⟨⟨v, hv, hr, _⟩, hq⟩ := hs
      exact ⟨⟨v, hv.kept hc.grown0 (by simp), own_ch hr hc (by simp), trivial⟩, hq.trans hc⟩)
    (fun _ _ _ _ _ hs _ _ => hs)
    ⟨⟨_, bO, hown0, trivial⟩, hc0⟩
    (fun x => { tmps := #[.pointer p, undef, .slice none 0 0, .pointer (some ⟨B, 0, none⟩), kv x, .pointer p, .int .i64 (m : Int), .slice (some ⟨w.heap.size, 0, none⟩) 0 m, .pointer p, .func (.func 103) #[] #[.pointer (some ⟨B + 1, 0, none⟩)], kv x, undef, undef, undef, undef, undef], defers := [] }) ?assign ?body ?done ?stop
  case assign =>
    intro l x W K hK
    gi_wp2
    exact hK
  case body =>
    rintro l pre x W ⟨⟨v, hv, hrow, _⟩, hq⟩ hpre
    have hc := hv.cell
    have hlt : pre.length < 64 := by
      have := hpre.length_le
      rw [← HM.out] at this
      simp at this
      omega
    gi_wp2_with (gi_at_builtin; refine wpListIn_append_own _ rfl _ _ 26 rfl w.heap.size 40 i0 (kv k0) 1 8 Tryz.underlying26 hi hz0 hz1 hz2 rfl (by decide) _ _ _ rfl (hrow.alloc _) ⟨W.heap.size, 0, none⟩ 1 1 [kv x] rfl rfl (cell_one_new _ _ _) (by simp [Value.oneCell']) (by unfold maxLen; omega) (by omega) (by have := hq.size; simp; omega) ?_; intro v' w3 hown' hgrow _; obtain ⟨g', cap', rfl⟩ := ownsRow_succ hown'; obtain ⟨hv1, hv2, hr2, hk2, hb2⟩ := hv.appended (by decide) hrow hq.size (by omega) hown' hgrow; have hc1 := hv1.cell; have hf1 := hv1.frozen)
    refine ⟨hk2.from _, ?_, ⟨_, hv2, by simpa [kvs] using hr2, trivial⟩, Ch.of_below ((hq.below w.heap.size (by simp) (Nat.le_refl _)).trans hb2)⟩
    exact (((KpT.ch ((Ch.refl [] W).alloc _)).grown (hrow.alloc _) (by decide) hgrow).set hv1 (by decide) _)
  case done =>
    rintro D ys W hD rfl ⟨⟨v, hv, hrow, _⟩, hq⟩ hK
    have hc := hv.cell
    gi_wp2
    refine ⟨by simp, .inl ⟨_, _, rfl, run_takeDeferred hK, ?_⟩⟩
    exact ⟨_, results_tmp rfl _ _ _, v, rfl, ownsRow_putObj hrow _ hK rfl, (ownFrom_ch (β := Unit) (w := w) (Nat.le_refl _)) () W _ (some D) hq (grownBy_putObj' W D _) (fun r e => by cases e; exact ⟨by omega, _, hK, rfl⟩)⟩
  case stop =>
    rintro D c pre W _ _ h _
    exact h.elim

theorem list_any {p : Option Addr} {L : List Ent} {w : World} (hO : OG w p L) : Calls Tryz.prog 48 #[.pointer p] w fun e W' =>
      ∃ v, e = .returned v ∧ W'.ownsRow w.heap.size 40 1 v (ks L).length (kvs (ks L)) ∧ Ch [] w W' := callsIn_wide.1 (list_in 0 p L w hO)
end Go.Proofs.YtalhlopjaijhcaaGreat.oU

namespace Go.Proofs.YtalhlopjaijhcaaGreat.oU
open Go.RowKit Go.Maps Go.Sort Go.Shelf

attribute [local go_sem] Oper.semAt_some

/-- The oldest and the newest key, the zero value if there is none. -/
def oldK (l : List K) : K := l.headD k0
theorem old_head {l : List K} {x : K} (h : [x] <+: l) : oldK l = x ∧ (0 < l.length) := by
  obtain ⟨r, rfl⟩ := h
  simp [oldK]

theorem boxed_other {W : World} {B X : Nat} {t : TypeId} {v : Value} (h : Boxed W B t v) (hne : B ≠ X) (u : Value) : Boxed (W.setCell ⟨X, 0, none⟩ u) B t v := (Below.heap_setCell _ ⟨X, 0, none⟩ u B hne).trans h
theorem boxed_put {W : World} {B D : Nat} {t : TypeId} {v : Value} (h : Boxed W B t v) {o : Obj} (hD : W.heap[D]? = some o) (ho : o.isCells = false) (o' : Obj) : Boxed (W.putObj D o') B t v :=
  (World.putObj_heap_other (fun e => by subst e; have h2 : W.heap[B]? = some (Obj.cells #[v] t (0, 0)) := h; rw [hD] at h2; cases h2; cases ho)).trans h

set_option maxRecDepth 100000 in
set_option maxHeartbeats 2000000 in
theorem oldest_in (n : Nat) (p : Option Addr) (L : List Ent) (w : World) (hO : OG w p L) :
    CallsIn Fence.wide (n + 6) Tryz.prog 120 #[.pointer p] w fun e W' => e = .returned (.tuple #[kv (oldK (ks L)), .bool (decide (0 < (ks L).length))]) ∧ Ch [] w W' := by
  have HO := Lib.hid hO
  obtain ⟨x0, hx0⟩ : ∃ x, x = oldK (ks L) := ⟨_, rfl⟩
  obtain ⟨b0, hb0⟩ : ∃ b, b = decide (0 < (ks L).length) := ⟨_, rfl⟩
  rw [← hx0, ← hb0]
  have HX := Lib.hid hx0
  have HB := Lib.hid hb0
  clear hO hx0 hb0
  have hw : ∀ f, Fence.wide.fn f := fun _ => trivial
  have hd : Fence.wide.depth = none := rfl
  have h1 : 1 ≤ n + 6 := by omega
  refine callsIn_of_wp_marks Tryz.func120 rfl trivial ?_ rfl
  simp only [Tryz.ntmps120, List.size_toArray, List.length_cons, List.length_nil, Nat.reduceAdd, Nat.reduceSub, Array.replicate_succ, Array.replicate_zero, List.push_toArray, List.append_toArray, List.nil_append, List.cons_append]
  gi_wp2_with (first | (gi_at_call 76; refine (keys_in _ _ _).mono ?_; rintro e w' ⟨rfl, rfl⟩))
  obtain ⟨W1, hW1⟩ : ∃ W1, W1 = w.alloc (.cells #[.int .u64 0] 40) := ⟨_, rfl⟩
  obtain ⟨W2, hW2⟩ : ∃ W2, W2 = W1.alloc (.cells #[.bool false] 4) := ⟨_, rfl⟩
  obtain ⟨W0, hW0⟩ : ∃ W0, W0 = W2.alloc (.cells #[.pointer p] 78) := ⟨_, rfl⟩
  have s1 : W1.heap.size = w.heap.size + 1 := by rw [hW1]; simp
  have s2 : W2.heap.size = w.heap.size + 1 + 1 := by rw [hW2]; simp [s1]
  have hsz : W0.heap.size = w.heap.size + 1 + 1 + 1 := by rw [hW0]; simp [s2]
  have q1 : Ch [] w W1 := by rw [hW1]; exact (Ch.refl [] _).alloc _
  have q2 : Ch [] W1 W2 := by rw [hW2]; exact (Ch.refl [] _).alloc _
  have q0 : Ch [] W2 W0 := by rw [hW0]; exact (Ch.refl [] _).alloc _
  have hc0 : Ch [] w W0 := (q1.trans q2).trans q0
  have bK : Boxed W0 w.heap.size 40 (.int .u64 0) := by rw [hW0, hW2, hW1]; exact ((Boxed.new w _ _).alloc _).alloc _
  have bB : Boxed W0 (w.heap.size + 1) 4 (.bool false) := by rw [hW0, hW2, ← s1]; exact (Boxed.new W1 _ _).alloc _
  have bN : Boxed W0 (w.heap.size + 1 + 1) 78 (.pointer p) := by rw [hW0, ← s2]; exact Boxed.new W2 _ _
  rw [← hW1, ← hW2, ← hW0]
  clear hW0 hW1 hW2 s1 s2 q1 q2 q0
  refine wpIn_range_p rfl h1 (gf := 103) (lb := #[.pointer (some ⟨w.heap.size + 1 + 1, 0, none⟩)]) rfl trivial (enters_of Tryz.func103 (by kernel_rfl) rfl)
    (keys_stops (n + 6 - 1) W0 bN.cell (HO.out.quiet hc0))
    (fun A B hAB k o hk _ _ => (hAB.block k (Array.getElem?_eq_some_iff.1 hk).1 (by simp)).trans hk)
    (fun h g => h.trans g) (fun W l o o' _ ho hc _ _ => KpT.put W l o o' ho hc) (fun _ => rfl)
    (fun pre W => (Boxed W w.heap.size 40 (.int .u64 0) ∧ Boxed W (w.heap.size + 1) 4 (.bool false)) ∧ Ch [] w W ∧ pre = [])
    (fun c pre W => (Boxed W w.heap.size 40 (kv (pre.headD k0)) ∧ Boxed W (w.heap.size + 1) 4 (.bool true)) ∧ Ch [] w W ∧ c = .ret ∧ ∃ x, pre = [x])
    (OwnFrom.and (OwnFrom.and (Own.from (boxed_own _ _ (fun _ => _)) _) (Own.from (boxed_own _ _ (fun _ => _)) _)) (OwnFrom.and (ownFrom_ch (by omega)) (ownFrom_pure _ (fun pre : List K => pre = []))))
    (fun s A B hs hc => ⟨⟨hs.1.1.kept hc.grown0 (by simp), hs.1.2.kept hc.grown0 (by simp)⟩, hs.2.1.trans hc, hs.2.2⟩)
    (fun c => OwnFrom.and (OwnFrom.and (Own.from (boxed_own _ _ (fun pre : List K => kv (pre.headD k0))) _) (Own.from (boxed_own _ _ (fun _ => _)) _)) (OwnFrom.and (ownFrom_ch (by omega)) (ownFrom_pure _ (fun pre : List K => c = .ret ∧ ∃ x, pre = [x]))))
    ⟨⟨bK, bB⟩, hc0, rfl⟩
    (fun x => { tmps := #[.pointer p, undef, .pointer (some ⟨w.heap.size, 0, none⟩), .pointer (some ⟨w.heap.size + 1, 0, none⟩), kv x, undef, .pointer p, .func (.func 103) #[] #[.pointer (some ⟨w.heap.size + 1 + 1, 0, none⟩)], kv x, undef, undef], defers := [] }) ?assign ?body ?done ?stop
  case assign =>
    intro l x W K hK
    gi_wp2
    exact hK
  case body =>
    rintro l pre x W ⟨⟨hk, hb⟩, hq, rfl⟩ hpre
    have d0 := hk.cell
    have d1 := hk.frozen
    have c0 := hb.cell
    have c1 := hb.frozen
    gi_wp2
    refine ⟨((KeepsOthers.setCell W ⟨w.heap.size, 0, none⟩ (kv x)).trans (KeepsOthers.setCell _ _ _)).from _, ⟨boxed_other (hk.set _) (by omega) _, (boxed_other hb (by omega) _).set _⟩, ?_, rfl, x, rfl⟩
    exact chSetNew (p := ⟨w.heap.size + 1, 0, none⟩) (chSetNew (p := ⟨w.heap.size, 0, none⟩) hq (Nat.le_refl _) _) (by simp) _
  case done =>
    rintro D ys W hD hys ⟨⟨hk, hb⟩, hq, rfl⟩ hK
    have d0 := hk.cell
    have d1 := hk.frozen
    have c0 := hb.cell
    have c1 := hb.frozen
    have HE := Lib.hid (show x0 = k0 ∧ b0 = false by rw [HX.out, HB.out, ← hys]; simp [oldK])
    clear hys
    gi_wp2
    have e1 : Boxed ((W.setCell ⟨w.heap.size, 0, none⟩ (.int .u64 0)).setCell ⟨w.heap.size + 1, 0, none⟩ (.bool false)) w.heap.size 40 (.int .u64 0) := boxed_other (hk.set _) (by omega) _
    have e2 : Boxed ((W.setCell ⟨w.heap.size, 0, none⟩ (.int .u64 0)).setCell ⟨w.heap.size + 1, 0, none⟩ (.bool false)) (w.heap.size + 1) 4 (.bool false) := (boxed_other hb (by omega) _).set _
    have hK2 := ((KeepsOthers.setCell W ⟨w.heap.size, 0, none⟩ (.int .u64 0)).trans (KeepsOthers.setCell _ ⟨w.heap.size + 1, 0, none⟩ (.bool false))).same D _ hK rfl
    have hq2 : Ch [] w ((W.setCell ⟨w.heap.size, 0, none⟩ (.int .u64 0)).setCell ⟨w.heap.size + 1, 0, none⟩ (.bool false)) := chSetNew (p := ⟨w.heap.size + 1, 0, none⟩) (chSetNew (p := ⟨w.heap.size, 0, none⟩) hq (Nat.le_refl _) _) (by simp) _
    generalize (W.setCell ⟨w.heap.size, 0, none⟩ (.int .u64 0)).setCell ⟨w.heap.size + 1, 0, none⟩ (.bool false) = WZ at *
    refine ⟨by simp, .inl ⟨_, _, rfl, run_takeDeferred hK2, ?_⟩⟩
    have j1 := (boxed_put e1 hK2 rfl (.deferred none)).cell
    have j2 := (boxed_put e2 hK2 rfl (.deferred none)).cell
    refine ⟨.tuple #[.int .u64 0, .bool false], ?_, ?_, (ownFrom_ch (β := Unit) (w := w) (Nat.le_refl _)) () WZ _ (some D) hq2 (grownBy_putObj' WZ D _) (fun r e => by cases e; exact ⟨by omega, _, hK2, rfl⟩)⟩
    · simp [results, Tryz.f120, go_sem, j1, j2]
    · rw [HE.out.1, HE.out.2]; rfl
  case stop =>
    rintro D c pre W hD hpre ⟨⟨hk, hb⟩, hq, rfl, x, rfl⟩ hK
    obtain ⟨h1, h2⟩ := old_head hpre
    have HE := Lib.hid (show x0 = x ∧ b0 = true by rw [HX.out, HB.out, h1]; exact ⟨rfl, decide_eq_true h2⟩)
    have hk2 : Boxed W w.heap.size 40 (kv x) := hk
    clear h1 h2 hk
    gi_wp2
    refine ⟨by simp, .inl ⟨_, _, rfl, run_takeDeferred hK, ?_⟩⟩
    have j1 := (boxed_put hk2 hK rfl (.deferred none)).cell
    have j2 := (boxed_put hb hK rfl (.deferred none)).cell
    refine ⟨.tuple #[kv x, .bool true], ?_, ?_, (ownFrom_ch (β := Unit) (w := w) (Nat.le_refl _)) () W _ (some D) hq (grownBy_putObj' W D _) (fun r e => by cases e; exact ⟨by omega, _, hK, rfl⟩)⟩
    · simp [results, Tryz.f120, go_sem, j1, j2]
    · rw [HE.out.1, HE.out.2]
theorem oldest_any {p : Option Addr} {L : List Ent} {w : World} (hO : OG w p L) : Calls Tryz.prog 120 #[.pointer p] w fun e W' => e = .returned (.tuple #[kv (oldK (ks L)), .bool (decide (0 < (ks L).length))]) ∧ Ch [] w W' := callsIn_wide.1 (oldest_in 0 p L w hO)

end Go.Proofs.YtalhlopjaijhcaaGreat.oU

/-
  Counts by keys of int: Keys.
-/
import Derived.Test.YtbjlkmmijdhgoaaCIE
import Derived.Test.YtbjlkmmijdhgoaaShelf
import Derived.Sort.OwnSorted
import Derived.Sort.OwnSortedInts
namespace Go.Proofs.Ytbjlkmmijdhgoaa.cI
open Go.RowKit Go.Maps Go.Sort

attribute [local go_sem] Oper.semAt_some

/-- What a range over the map has met. -/
structure Coll (D : DataW Value) (L : List Ent) (left : Lit → Bool) (ss : List K) (cnt : Nat) : Prop where
  nd : ss.Nodup
  old : ∀ k ∈ ss, wfK k ∧ left (kl k) = false ∧ k ∈ L.map (·.k)
  rest : ∀ e ∈ L, e.k ∈ ss ∨ left (kl e.k) = true
  num : ss.length + cnt ≤ L.length
theorem Coll.start {D : DataW Value} {L : List Ent} (h : Vw D L) : Coll D L (has D) [] (size D) := ⟨by simp, by simp, fun e he => .inr (h.has he), by rw [h.sz]; simp⟩
theorem Coll.step {D : DataW Value} {L : List Ent} {left : Lit → Bool} {ss : List K} {cnt cnt' : Nat} (h : Coll D L left ss cnt) (hv : Vw D L) {l : Lit} {x : Option Addr × K} {y : DataW Value × List MemPlace}
    (hl : left l = true) (hx : rd (rv x.1 x.2) = some y) (hat : ∀ zd, D.atKey l zd = y.1) (hc : cnt' < cnt) : Coll D L (fun z => left z && !z.sameKey l) (ss ++ [x.2]) cnt' := by
  obtain ⟨e, he, rfl⟩ := hv.all l (has_true_of_atKey hat)
  have hk := (hv.mem e he).1
  rw [rd_mk] at hx
  have h1 := hat (.held (.bool true))
  rw [(hv.mem e he).2] at h1
  cases hx
  have e2 : x.2 = e.k := by simp at h1; exact h1.2.symm
  rw [e2]
  have hnew : e.k ∉ ss := fun hm => by have := (h.old _ hm).2.1; rw [hl] at this; cases this
  refine ⟨List.nodup_append.2 ⟨h.nd, by simp, fun a ha b hb => by simp at hb; subst hb; exact fun e1 => hnew (e1 ▸ ha)⟩, fun k hk2 => ?_, fun e' he' => ?_, by have := h.num; simp; omega⟩
  · rcases List.mem_append.1 hk2 with hm | hm
    · exact ⟨(h.old k hm).1, by simp [(h.old k hm).2.1], (h.old k hm).2.2⟩
    · obtain rfl : k = e.k := by simpa using hm
      exact ⟨hk, by simp [WideAt.sameKey_self (is_key e.k)], List.mem_map.2 ⟨e, he, rfl⟩⟩
  · by_cases e3 : e'.k = e.k
    · exact .inl (by simp [e3])
    · rcases h.rest e' he' with h2 | h2
      · exact .inl (by simp [h2])
      · exact .inr (by simp [h2, sameKey_ne (fun e4 => e3 (kl_inj (hv.mem e' he').1 hk e4))])
theorem Coll.perm {D : DataW Value} {L : List Ent} {left : Lit → Bool} {ss : List K} {cnt : Nat} (h : Coll D L left ss cnt) (hv : Vw D L) (hl : ∀ l, left l = false) : ss.Perm (L.map (·.k)) := by
  refine (List.perm_ext_iff_of_nodup h.nd hv.nd).2 fun k => ⟨fun hk => (h.old k hk).2.2, fun hk => ?_⟩
  obtain ⟨e, he, rfl⟩ := List.mem_map.1 hk
  rcases h.rest e he with h1 | h1
  · exact h1
  · rw [hl] at h1; cases h1

theorem sorted_ms (ss : List K) : (ss.mergeSort fun x y => decide (x ≤ y)).Pairwise (fun x y => x ≤ y) := by
  refine (List.pairwise_mergeSort (le := fun x y : Int => decide (x ≤ y)) (fun a b c h1 h2 => ?_) (fun a b => ?_) ss).imp (fun h => by simpa using h)
  · simp at *; omega
  · simp; omega

theorem infoE : (Try.prog.info? 3).map (fun i => (i.zero, i.size, i.bytes)) = some (some (kv k0), 1, 8) := by kernel_rfl

set_option maxRecDepth 100000 in
set_option maxHeartbeats 2000000 in
theorem keys_any {w : World} {R M top : Nat} {L : List Ent} (h : RF w R M top L) :
    Calls Try.prog 23 #[.pointer (some ⟨R, 0, none⟩)] w fun r w' => ∃ (g cap : Nat) (ss : List K), r = .returned (.slice (some ⟨g, 0, none⟩) ss.length cap) ∧ ss.Perm (L.map (·.k)) ∧ ss.Pairwise (fun x y => x ≤ y) ∧
      w'.ownsRow w.heap.size 3 1 (.slice (some ⟨g, 0, none⟩) ss.length cap) ss.length (ss.map kv) ∧ Below w.heap.size w w' := by
  obtain ⟨i0, hi, hz0, hz1, hz2⟩ := info_parts infoE
  obtain ⟨D, hown, hv⟩ := h.own
  have r0 := h.c0
  have r1 := h.c1
  have hbl := hown.lt
  have HV := Lib.hid hv
  have HLn := Lib.hid h.hl
  have HSz := Lib.hid hv.sz
  have hmax : size D ≤ maxLen := by rw [hv.sz]; have := h.hl; unfold maxLen; omega
  have hbytes : size D ≤ 64 := by rw [hv.sz]; exact h.hl
  obtain ⟨n, hn⟩ : ∃ n, n = L.length := ⟨_, rfl⟩
  rw [← hn] at hown
  clear h hv hn
  go_enter Try.func23, Try.ntmps23
  go_wp2_with (first
    | (at_len; refine wpList_len_own _ rfl _ 74 rfl 83 79 Try.underlying74 _ M n D rfl hown ?_)
    | (at_make; refine wpList_make_own _ rfl _ _ 56 rfl w.heap.size 3 i0 (kv k0) 1 Try.underlying56 hi hz0 hz1 _ _ _ (size D) rfl rfl rfl (by rw [hz2]; omega) hmax (Nat.le_refl _) ?_; intro w1 hrow1 hg1; have r1' := hg1.cell r1 (by simp))
    | (at_range; refine wpList_range_own _ rfl _ 74 rfl 83 79 law Try.underlying74 _ M n D rfl (hown.kept hg1 (by simp)) ?_; intro w0 hrg0 hg0 hs0)
    | fail)
  go_frame
  go_loopw [3] (fun v wr => ∃ (left : Lit → Bool) (cnt : Nat) (ss : List K), wr.ranges Try.prog 83 rd M w1.heap.size n D left cnt ∧ wr.ownsRow w.heap.size 3 1 v ss.length (ss.map kv) ∧ v ≠ .slice none 0 0 ∧ Coll D L left ss cnt ∧ Below w.heap.size w wr)
    (fun _ wr => wr.rangeLeft M w1.heap.size)
  case atStart =>
    exact ⟨_, _, [], hrg0, hrow1.kept hg0 (Or.inr (by simp [Value.ownBlock])), by simp, Coll.start HV.out, ((Below.refl _ _).grown hg1 (Nat.le_refl _) (fun j hj => by cases hj)).grown hg0 hg1.size (fun j hj => by cases hj)⟩
  case round =>
    obtain ⟨left, cnt, ss, hrg, hrow, hnn, hC, hnx⟩ := hrel
    have HW1 := Lib.hid hg1.size
    clear hrow1 hg1 hg0 hrg0 hs0 r0 r1 r1'
    go_wp2_with (first
      | (at_next; refine wpList_next_ranges _ rfl _ rfl 83 law rd (fun v : Value => v) (fun c : Option Addr × K => rv c.1 c.2) (fun key kl hk => ⟨key, rfl⟩) (fun v y hv => rd_inv hv) M w1.heap.size n _ _ _ rfl hrg ?_ ?_)
      | fail)
    · intro hc0 hl0
      rcases hrow.2 with ⟨hnil, _⟩ | ⟨g, cap, cur, rfl, hbase, hb, h1, h2, h3, h4⟩
      · exact absurd hnil hnn
      have hH : Holds (Value.int .i64) wr g 0 ss.toArray := holds_of_blockI hb (by simpa using h4)
      have hgl : g < wr.heap.size := (Array.getElem?_eq_some_iff.1 hb).1
      have hnum := hC.num
      have h64 := HLn.out
      have hp := hC.perm HV.out hl0
      have hc : Calls Try.prog 34 #[.slice (some ⟨g, 0, none⟩) ss.length cap] wr _ := Any.slices_Sort_int Try.lays189 g 0 cap ss wr hH hgl (by omega)
      have HC := Lib.hid hc
      clear hc hnum h64
      go_wp2_with (go_at_call 34; refine HC.out.mono ?_; rintro e w' ⟨rfl, nn, os, rfl⟩)
      go_ret
      have el : (ss.mergeSort fun x y => decide (x ≤ y)).length = ss.length := by simp
      exact ⟨g, cap, ss.mergeSort fun x y => decide (x ≤ y), by rw [el]; rfl, (List.mergeSort_perm _ _).trans hp, sorted_ms ss, by rw [el]; exact ownsRow_sortedI el hbase hb h1 h2 h3, hnx.grown (grownBy_sortedI _) hnx.size (fun j hj => by cases hj; exact hbase)⟩
    · intro key p k l yd yp w2 cnt2 hkey hlk hv2 hat hrg2 hlt hg2 hs2 hen
      have HC2 := Lib.hid (hC.step (x := (p, k)) (y := (yd, yp)) HV.out hlk hv2 hat hlt)
      have hrow2 := hrow.kept hg2 (Or.inr (row_ne_iter hrow hrg).symm)
      have HLt := Lib.hid hlt
      have HSl := Lib.hid (show ss.length + 1 ≤ 64 by have := hC.num; have := HLn.out; omega)
      have HOn := Lib.hid (show One ((w2.alloc (.cells #[.pointer p, kv k] 79)).alloc (.cells #[kv k] 3)) (w2.heap.size + 1) (kv k) by
        have := One.new (w2.alloc (.cells #[.pointer p, kv k] 79)) (kv k) 3
        rwa [World.size_alloc] at this)
      have HB2 := Lib.hid (hnx.grown hg2 hnx.size (fun j hj => by cases hj; exact HW1.out))
      have HLeft := Lib.hid (And.intro hrg.left_eq hrg2)
      clear hs2 hlt hv2 hat hlk hkey hC hg2 hrg hnx
      go_wp2_with (first
        | (at_builtin; refine wpList_append_own _ rfl _ _ 56 rfl w.heap.size 3 i0 (kv k0) 1 8 Try.underlying56 hi hz0 hz1 hz2 rfl (by decide) _ _ _ rfl ((hrow2.alloc _).alloc _) ⟨w2.heap.size + 1, 0, none⟩ 1 1 [kv k] rfl rfl HOn.out.news (by simp [Value.oneCell', kv]) (by have := HSl.out; unfold maxLen; omega) (by have := HSl.out; omega) (by have := HB2.out.size; simp; omega) ?_; intro v' w3 hown' hg3 hnil3; go_frame)
        | fail)
      have hrg2 := HLeft.out.2
      have hrg3 := ((hrg2.alloc _).alloc _).kept hg3 (row_ne_low hrow2 hbl) (row_ne_iter hrow2 hrg2)
      have hle := HLeft.out.1
      have hlt := HLt.out
      have hw2 := HB2.out.size
      go_roundw
      case rel =>
        refine ⟨_, cnt2, ss ++ [k], hrg3, by simpa using hown', fun hv' => hnn (hnil3.1 hv').1, HC2.out, ?_⟩
        exact (((HB2.out.alloc hw2 _).alloc (by simp; omega) _).grown hg3 (by simp; omega) (fun j hj => (hrow2.lt j hj).1))
      case measure => rw [hrg3.left_eq, hle]; exact hlt
end Go.Proofs.Ytbjlkmmijdhgoaa.cI

/-
  Plain: what WheelOnce asks.
  A wheel beside memory that is laid behind it; arrays of a hundred.
  WheelOnce: the round of its outer loop, behind the tick that it goes to.
-/
import Derived.Test.YtcjemidflbfljaaDoorMgI
import Derived.Test.YtcjemidflbfljaaDoorMgD
import Derived.Test.YtcjemidflbfljaaDoorMgK
namespace Go.Proofs.YtcjemidflbfljaaDoor
open Go.RowKit

/-- When timer j is due. -/
def dueJ (now : Int) (z : Nat → Int) (j : Nat) : Int := (placeV now (z j)).due
theorem PL_at {now : Int} {z : Nat → Int} {n j : Nat} (h : j < n) : (⟨(j : Int), placeV now (z j), j⟩ : Tm) ∈ PL now z n := PL_mem.2 ⟨j, h, rfl⟩
theorem PL_rise (now : Int) (z : Nat → Int) (n : Nat) : Rising (PL now z n) := by
  unfold Rising PL
  rw [List.pairwise_map]
  exact List.pairwise_lt_range
theorem PL_nd (now : Int) (z : Nat → Int) (n : Nat) : ((PL now z n).map (·.id)).Nodup := by
  unfold PL
  rw [List.map_map, List.nodup_iff_pairwise_ne, List.pairwise_map]
  exact (List.pairwise_lt_range (n := n)).imp (fun h => by simp; omega)
theorem later_nd {L : List Tm} (h : (L.map (·.id)).Nodup) (d : Int) : ((later L d).map (·.id)).Nodup := (List.Sublist.map _ List.filter_sublist).nodup h
theorem look_later {now cur : Int} {z : Nat → Int} {n k : Nat} (hk : k < n) : lookB (later (PL now z n) cur) (k : Int) = decide (cur < dueJ now z k) ∧ (findS (later (PL now z n) cur) (k : Int)).due = if cur < dueJ now z k then dueJ now z k else 0 := by
  have hnd := later_nd (PL_nd now z n) cur
  by_cases h : cur < dueJ now z k
  · have hm : (⟨(k : Int), placeV now (z k), k⟩ : Tm) ∈ later (PL now z n) cur := later_mem.2 ⟨PL_at hk, h⟩
    have hf := find_in hnd hm
    unfold lookB findS
    simp only [] at hf
    rw [hf, if_pos h]
    exact ⟨by simp [h], rfl⟩
  · have hno : ∀ t ∈ later (PL now z n) cur, t.id ≠ (k : Int) := fun t ht e => by
      obtain ⟨h1, h2⟩ := later_mem.1 ht
      obtain ⟨j, hj, rfl⟩ := PL_mem.1 h1
      obtain rfl : j = k := by simp only [] at e; omega
      exact h h2
    unfold lookB findS
    rw [find_no hno, if_neg h]
    exact ⟨by simp [h], rfl⟩

/-- Which are out at a tick. -/
def oF (now : Int) (z : Nat → Int) (n : Nat) (cur : Int) (j : Nat) : Bool := decide (j < n ∧ dueJ now z j ≤ cur)
section
variable {now cur tx : Int} {z : Nat → Int} {n : Nat}
/-- The k-th that comes out. -/
def dz (zs : List Int) (k : Nat) : Nat := (zs[k]?.getD 0).toNat
theorem zs_mem {x : Int} : x ∈ outs (later (PL now z n) cur) tx ↔ ∃ j : Nat, j < n ∧ x = (j : Int) ∧ cur < dueJ now z j ∧ dueJ now z j ≤ tx := by
  rw [outs_mem]
  constructor
  · rintro ⟨t, h1, h2, rfl⟩
    obtain ⟨h3, h4⟩ := later_mem.1 h1
    obtain ⟨j, hj, rfl⟩ := PL_mem.1 h3
    exact ⟨j, hj, rfl, h4, h2⟩
  · rintro ⟨j, hj, rfl, h1, h2⟩
    exact ⟨_, later_mem.2 ⟨PL_at hj, h1⟩, h2, rfl⟩
theorem zs_at {k : Nat} (hk : k < (outs (later (PL now z n) cur) tx).length) : (outs (later (PL now z n) cur) tx)[k]? = some ((dz (outs (later (PL now z n) cur) tx) k : Nat) : Int) ∧ dz (outs (later (PL now z n) cur) tx) k < n ∧ cur < dueJ now z (dz (outs (later (PL now z n) cur) tx) k) ∧ dueJ now z (dz (outs (later (PL now z n) cur) tx) k) ≤ tx := by
  have hm := List.getElem_mem hk
  obtain ⟨j, hj, e, h1, h2⟩ := zs_mem.1 hm
  have ed : dz (outs (later (PL now z n) cur) tx) k = j := by
    unfold dz
    rw [List.getElem?_eq_getElem hk, e]
    rfl
  rw [ed]
  exact ⟨by rw [List.getElem?_eq_getElem hk, e], hj, h1, h2⟩
theorem zs_nd : (outs (later (PL now z n) cur) tx).Nodup := by
  unfold outs
  have h1 := later_nd (PL_nd now z n) cur
  have h2 : ((upto (later (PL now z n) cur) tx).map (·.id)).Nodup := (List.Sublist.map _ List.filter_sublist).nodup h1
  exact (((DL_perm _).map _).nodup_iff).2 h2
theorem zs_sorted {k : Nat} (hk : k + 1 < (outs (later (PL now z n) cur) tx).length) : dueJ now z (dz (outs (later (PL now z n) cur) tx) k) ≤ dueJ now z (dz (outs (later (PL now z n) cur) tx) (k + 1)) := by
  have hs := DL_sorted (((PL_rise now z n).filter (fun t => decide (cur < t.sp.due))).filter (fun t => decide (t.sp.due ≤ tx)))
  have hl : (DL (upto (later (PL now z n) cur) tx)).length = (outs (later (PL now z n) cur) tx).length := by unfold outs; rw [List.length_map]
  have hd : ∀ i (hi : i < (DL (upto (later (PL now z n) cur) tx)).length), dueJ now z (dz (outs (later (PL now z n) cur) tx) i) = ((DL (upto (later (PL now z n) cur) tx))[i]).sp.due := fun i hi => by
    have hm := List.getElem_mem hi
    obtain ⟨j, hj, e⟩ := PL_mem.1 (later_mem.1 (upto_mem.1 (DL_mem.1 hm)).1).1
    have ed : dz (outs (later (PL now z n) cur) tx) i = j := by
      unfold dz outs
      rw [List.getElem?_map, List.getElem?_eq_getElem hi, e]
      rfl
    rw [ed, e]
    rfl
  have h1 : k < (DL (upto (later (PL now z n) cur) tx)).length := by omega
  have h2 : k + 1 < (DL (upto (later (PL now z n) cur) tx)).length := by omega
  rw [hd k h1, hd (k + 1) h2]
  have := (List.pairwise_iff_getElem.1 hs) k (k + 1) h1 h2 (by omega)
  unfold dueLt at this
  have h3 : ∀ (a b : Tm), (a.sp.due < b.sp.due ∨ a.sp.due = b.sp.due ∧ a.put < b.put) → a.sp.due ≤ b.sp.due := fun a b h => by omega
  exact h3 _ _ this
/-- Which are out behind k of those that come out. -/
def oK (now : Int) (z : Nat → Int) (n : Nat) (cur : Int) (zs : List Int) (k : Nat) (j : Nat) : Bool := oF now z n cur j || decide ((j : Int) ∈ zs.take k)
theorem oK_zero (zs : List Int) : oK now z n cur zs 0 = oF now z n cur := by
  funext j
  simp [oK]
theorem oK_no {k : Nat} (hk : k < (outs (later (PL now z n) cur) tx).length) : oK now z n cur (outs (later (PL now z n) cur) tx) k (dz (outs (later (PL now z n) cur) tx) k) = false := by
  obtain ⟨h1, h2, h3, h4⟩ := zs_at hk
  have hnd := zs_nd (now := now) (cur := cur) (tx := tx) (z := z) (n := n)
  generalize outs (later (PL now z n) cur) tx = zs at *
  unfold oK oF
  rw [Bool.or_eq_false_iff]
  refine ⟨decide_eq_false (by omega), decide_eq_false fun hm => ?_⟩
  obtain ⟨i, hi, e⟩ := List.mem_iff_getElem.1 hm
  rw [List.length_take] at hi
  rw [List.getElem_take] at e
  rw [List.getElem?_eq_getElem hk] at h1
  have h5 := Option.some.inj h1
  rw [← h5] at e
  rw [List.nodup_iff_pairwise_ne] at hnd
  exact (List.pairwise_iff_getElem.1 hnd) i k (by omega) hk (by omega) e
theorem oK_succ {k : Nat} (hk : k < (outs (later (PL now z n) cur) tx).length) : oK now z n cur (outs (later (PL now z n) cur) tx) (k + 1) = fun j => if j = dz (outs (later (PL now z n) cur) tx) k then true else oK now z n cur (outs (later (PL now z n) cur) tx) k j := by
  obtain ⟨h1, -⟩ := zs_at hk
  funext j
  unfold oK
  rw [List.take_add_one, h1]
  by_cases e : j = dz (outs (later (PL now z n) cur) tx) k
  · rw [if_pos e, e]
    simp
  · rw [if_neg e]
    have : ¬ (j : Int) = ((dz (outs (later (PL now z n) cur) tx) k : Nat) : Int) := by omega
    simp [this]
theorem oK_all : oK now z n cur (outs (later (PL now z n) cur) tx) (outs (later (PL now z n) cur) tx).length = oF now z n (max cur tx) := by
  funext j
  unfold oK oF
  rw [List.take_length, Bool.eq_iff_iff]
  simp only [Bool.or_eq_true, decide_eq_true_eq, zs_mem]
  constructor
  · rintro (⟨h1, h2⟩ | ⟨i, hi, e, h1, h2⟩)
    · exact ⟨h1, by omega⟩
    · obtain rfl : j = i := by omega
      exact ⟨hi, by omega⟩
  · rintro ⟨h1, h2⟩
    by_cases h : dueJ now z j ≤ cur
    · exact .inl ⟨h1, h⟩
    · exact .inr ⟨j, h1, rfl, by omega, by omega⟩
end
end Go.Proofs.YtcjemidflbfljaaDoor
namespace Go.Proofs.YtcjemidflbfljaaDoor
open Go.RowKit Go.Maps

theorem place_ahead {now x : Int} (hn : Wd now) (hx : Wd x) (hm : now ≠ 18446744073709551615) : now < (placeV now x).at' ∧ (placeV now x).at' ≤ (placeV now x).due := by
  refine ⟨?_, (placed hn hx hm).2.2.2.1⟩
  obtain ⟨-, p1, p2, p3⟩ := clampV_of hn hx hm
  unfold placeV
  simp only []
  omega
/-- A wheel whose blocks all lie ahead of X. -/
structure WF (w0 w : World) (X B : Nat) (now : Int) (puts : Nat) (L : List Tm) : Prop where
  wb : ∃ S : Nat → Prop, WB w w0.heap.size B S now puts L ∧ ∀ k, S k → k < X
  bel : Below w0.heap.size w0 w
section
variable {w0 w w' : World} {X B : Nat} {now : Int} {puts : Nat} {L : List Tm}
theorem WF.of (h : WK w0 w B now puts L) : WF w0 w w.heap.size B now puts L := by
  obtain ⟨S, hw⟩ := h.wb
  exact ⟨⟨S, hw, hw.hi⟩, h.bel⟩
theorem WF.tab (h : WF w0 w X B now puts L) (hT : Mk.Tab w0) : Mk.Tab w := hT.below h.bel (tab_lt hT)
theorem WF.chT (h : WF w0 w X B now puts L) {T : Nat → Prop} (hc : ChP T w w') (hT : ∀ k, T k → X ≤ k) (hX : w0.heap.size ≤ X) : WF w0 w' X B now puts L := by
  obtain ⟨S, hw, hS⟩ := h.wb
  exact ⟨⟨S, hw.frame hc (fun k hk ht => by have := hS k hk; have := hT k ht; omega), hS⟩, h.bel.trans (hc.below _ (fun k hk => Nat.le_trans hX (hT k hk)) h.bel.size)⟩
theorem WF.quiet (h : WF w0 w X B now puts L) (hc : Ch [] w w') : WF w0 w' X B now puts L := by
  obtain ⟨S, hw, hS⟩ := h.wb
  exact ⟨⟨S, hw.quiet hc, hS⟩, h.bel.trans (hc.below _ (fun k hk => by simp at hk) h.bel.size)⟩
theorem WF.find (h : WF w0 w X B now puts L) {k : Int} (hk : wf64 k) :
    Calls Tryd.prog 12 #[.pointer (some ⟨B, 0, none⟩), .int .i64 k] w fun e w' => e = .returned (.tuple #[spV (findS L k), .bool (lookB L k)]) ∧ Ch [] w w' := by
  obtain ⟨S, hw, hS⟩ := h.wb
  exact find_any hw hk
theorem WF.nowOf (h : WF w0 w X B now puts L) : Calls Tryd.prog 11 #[.pointer (some ⟨B, 0, none⟩)] w fun e w' => e = .returned (.int .u64 now) ∧ w' = w := by
  obtain ⟨S, hw, hS⟩ := h.wb
  exact now_any hw
theorem WF.lenOf (h : WF w0 w X B now puts L) : Calls Tryd.prog 14 #[.pointer (some ⟨B, 0, none⟩)] w fun e w' => e = .returned (.int .i64 (L.length : Int)) ∧ w' = w := by
  obtain ⟨S, hw, hS⟩ := h.wb
  exact len_any hw
theorem WF.to (h : WF w0 w X B now puts L) (hT : Mk.Tab w0) {x : Int} (hx : Wd x) :
    Calls Tryd.prog 13 #[.pointer (some ⟨B, 0, none⟩), .int .u64 x] w fun e w' =>
      ∃ v, e = .returned v ∧ w'.ownsRow w.heap.size 3 1 v (outs L x).length ((outs L x).map iv) ∧ WF w0 w' X B (max now x) puts (later L x) ∧ ChP (fun k => k < X) w w' := by
  obtain ⟨S, hw, hS⟩ := h.wb
  rcases Int.lt_or_le now x with hlt | hle
  · refine (to_any hw (h.tab hT) hx hlt).mono fun _ _ ⟨v, he, hr, hw', hc⟩ => ⟨v, he, hr, ?_, hc.mono hS⟩
    rw [show max now x = x by omega]
    exact ⟨⟨S, hw', hS⟩, h.bel.trans (hc.below _ hw.wc.lo h.bel.size)⟩
  · refine (to_less hw hle).mono fun _ _ ⟨he, hc⟩ => ⟨_, he, ?_, ?_, .quiet hc⟩
    · rw [outs_nil (fun t ht => by have := (hw.wi.fits t ht).ahead; omega)]
      exact World.ownsRow_nil _ _ _ _
    · rw [later_all (fun t ht => by have := (hw.wi.fits t ht).ahead; omega), show max now x = now by omega]
      exact h.quiet hc
end
/-- A hundred bools; a hundred words. -/
structure BoolsAt (w : World) (X : Nat) (o : Nat → Bool) : Prop where
  at' : ∀ k, k < 100 → w.cell? ⟨X, k, none⟩ = some (.bool (o k))
  fr : ∀ k, w.frozen? ⟨X, k, none⟩ = false
structure U64At (w : World) (Y : Nat) (d : Nat → Int) : Prop where
  at' : ∀ k, k < 100 → w.cell? ⟨Y, k, none⟩ = some (.int .u64 (d k))
  fr : ∀ k, w.frozen? ⟨Y, k, none⟩ = false
section
variable {w w' : World} {X Y : Nat} {o : Nat → Bool} {d : Nat → Int} {T : Nat → Prop}
theorem BoolsAt.lt (h : BoolsAt w X o) : X < w.heap.size := cell_lt (h.at' 0 (by decide))
theorem U64At.lt (h : U64At w Y d) : Y < w.heap.size := cell_lt (h.at' 0 (by decide))
theorem BoolsAt.chP (h : BoolsAt w X o) (hc : ChP T w w') (hT : ¬ T X) : BoolsAt w' X o := ⟨fun k hk => (hc.cell (p := ⟨X, k, none⟩) h.lt hT).trans (h.at' k hk), fun k => (hc.frozen (p := ⟨X, k, none⟩) h.lt hT).trans (h.fr k)⟩
theorem U64At.chP (h : U64At w Y d) (hc : ChP T w w') (hT : ¬ T Y) : U64At w' Y d := ⟨fun k hk => (hc.cell (p := ⟨Y, k, none⟩) h.lt hT).trans (h.at' k hk), fun k => (hc.frozen (p := ⟨Y, k, none⟩) h.lt hT).trans (h.fr k)⟩
theorem BoolsAt.quiet (h : BoolsAt w X o) (hc : Ch [] w w') : BoolsAt w' X o := h.chP (T := fun _ => False) (.quiet hc) (fun e => e)
theorem U64At.quiet (h : U64At w Y d) (hc : Ch [] w w') : U64At w' Y d := h.chP (T := fun _ => False) (.quiet hc) (fun e => e)
theorem BoolsAt.set (h : BoolsAt w X o) {k : Nat} (hk : k < 100) (b : Bool) : BoolsAt (w.setCell ⟨X, k, none⟩ (.bool b)) X (fun j => if j = k then b else o j) := by
  refine ⟨fun j hj => ?_, fun j => by simpa using h.fr j⟩
  by_cases e : j = k
  · subst e
    rw [if_pos rfl]
    exact setCell_same (h.at' j hj)
  · rw [if_neg e]
    exact setCell_other (h.at' j hj) (addr_ne_off (fun x => e x.symm))
theorem U64At.set (h : U64At w Y d) {k : Nat} (hk : k < 100) (b : Int) : U64At (w.setCell ⟨Y, k, none⟩ (.int .u64 b)) Y (fun j => if j = k then b else d j) := by
  refine ⟨fun j hj => ?_, fun j => by simpa using h.fr j⟩
  by_cases e : j = k
  · subst e
    rw [if_pos rfl]
    exact setCell_same (h.at' j hj)
  · rw [if_neg e]
    exact setCell_other (h.at' j hj) (addr_ne_off (fun x => e x.symm))
theorem zeroB : Tryd.zeroCells32 = Array.replicate 100 (.bool false) := by kernel_rfl
theorem zeroU : Tryd.zeroCells34 = Array.replicate 100 (.int .u64 0) := by kernel_rfl
theorem BoolsAt.new (w : World) : BoolsAt (w.alloc (.cells Tryd.zeroCells32 32)) w.heap.size (fun _ => false) :=
  ⟨fun k hk => by rw [World.cell?_alloc_at _ _ _ _ rfl, zeroB]; simp [hk], fun _ => World.frozen?_alloc_new w _ _ _⟩
theorem U64At.new (w : World) : U64At (w.alloc (.cells Tryd.zeroCells34 34)) w.heap.size (fun _ => 0) :=
  ⟨fun k hk => by rw [World.cell?_alloc_at _ _ _ _ rfl, zeroU]; simp [hk], fun _ => World.frozen?_alloc_new w _ _ _⟩
theorem setCell_chP (w : World) (X k : Nat) (v : Value) : ChP (fun x => x = X) w (w.setCell ⟨X, k, none⟩ v) := ChP.setCell (S := fun x => x = X) (ChP.refl _ _) (p := ⟨X, k, none⟩) (.inl rfl) v
end
end Go.Proofs.YtcjemidflbfljaaDoor
namespace Go.Proofs.YtcjemidflbfljaaDoor
open Go.RowKit Go.Maps

attribute [local go_sem] Oper.semAt_some

/-- What the round's own array holds: when each is due that is held. -/
def dvJ (now : Int) (z : Nat → Int) (cur : Int) (j : Nat) : Int := if cur < dueJ now z j then dueJ now z j else 0
def dvN (now : Int) (z : Nat → Int) (cur : Int) (k j : Nat) : Int := if j < k then dvJ now z cur j else 0
theorem dvN_zero (now : Int) (z : Nat → Int) (cur : Int) : dvN now z cur 0 = fun _ => 0 := by funext j; simp [dvN]
theorem dvN_succ (now : Int) (z : Nat → Int) (cur : Int) (k : Nat) : dvN now z cur (k + 1) = fun j => if j = k then dvJ now z cur k else dvN now z cur k j := by
  funext j
  unfold dvN
  by_cases e : j = k
  · subst e
    rw [if_pos rfl, if_pos (by omega)]
  · rw [if_neg e]
    by_cases h : j < k
    · rw [if_pos h, if_pos (by omega)]
    · rw [if_neg h, if_neg (by omega)]

set_option maxRecDepth 100000 in
set_option maxHeartbeats 4000000 in
theorem once_round {w w3 : World} {X B n : Nat} {now cur tx : Int} {z : Nat → Int} (hT : Mk.Tab w) (hn : n ≤ 100) (htx : Wd tx) (hX : w.heap.size ≤ X) (hXl : X < w3.heap.size) (hW : WF w w3 X B cur n (later (PL now z n) cur)) (hO : BoolsAt w3 X (oF now z n cur))
    {u1 u2 u3 u4 u5 u6 u9 u10 u11 u12 u13 u15 u17 u18 u19 u20 u21 u22 u23 u24 u25 u26 u27 u28 u29 u30 u31 u32 u33 u34 u35 u36 u37 u38 u39 u40 u41 u42 u43 u44 u45 u46 u47 u48 u49 u50 u51 u52 u53 u54 u55 u56 u57 u58 u59 u60 u61 u62 u63 u64 u65 u66 u67 u68 u69 u70 u71 u72 u73 u74 u75 u76 u77 u78 u79 u80 u81 u82 u83 u84 u85 u86 u87 u88 u89 u90 u91 u92 u93 u94 u95 u96 u97 u98 u99 u100 u101 u102 u103 u104 u105 u106 u107 u108 u109 u110 u111 u112 u113 u114 u115 u116 u117 u118 u119 u120 u121 u122 u123 u124 u125 u126 u127 u128 u129 u130 u131 u132 u133 u134 u135 u136 u137 u138 u139 u140 u141 u142 u143 u144 u145 u146 u147 u148 u149 u150 u151 u152 u153 u154 u155 u156 u157 u158 u159 u160 u161 u162 u163 u164 u165 u166 u167 u168 u169 u170 u171 u172 u173 u174 u175 u176 u177 u178 u179 u180 u181 u182 u183 u184 u185 u186 u187 u188 u189 u190 u191 u192 u193 u194 u195 u196 u197 u198 u199 u200 u201 u202 u203 u204 u205 u206 u207 u208 u209 u210 u211 u212 u213 u214 : Value} {Q : Exit → Act → World → Prop}
    (hQ : ∀ ⦃x17 x18 x19 x20 x21 x22 x23 x24 x95 x96 x97 x98 x99 x100 x101 x102 x103 x104 x105 x106 x107 x108 x109 x110 x111 x112 x113 x114 x115 x116 x117 x118 x119 x120 x121 x122 x123 x124 x125 x126 x127 x128 x129 x130 x131 x132 x133 x134 x135 x136 x137 x138 x139 x140 x141 x142 x143 x144 x145 x146 x147 x148 x149 x150 x151 x152 x153 x154 x155 x156 x157 x158 x159 x160 x161 x162 x163 x164 x165 x166 x167 x168 x169 x170 x171 x172 x173 x174 x175 x176 x177 x178 x179 x180 x181 x182 x183 x184 x185 x186 x187 x188 x189 x190 x191 x192 x193 x194 x195 x196 x197 x198 x199 x200 x201 x202 x203 x204 x205 x206 x207 x208 x6 : Value⦄ ⦃wq : World⦄, WF w wq X B (max cur tx) n (later (PL now z n) (max cur tx)) → BoolsAt wq X (oF now z n (max cur tx)) → w3.heap.size ≤ wq.heap.size → Q .normal { tmps := #[.int .u64 now, u1, u2, u3, u4, u5, x6, .pointer (some ⟨B, 0, none⟩), .int .i64 (n : Int), u9, u10, u11, u12, u13, .pointer (some ⟨X, 0, none⟩), u15, .int .u64 tx, x17, x18, x19, x20, x21, x22, x23, x24, u25, u26, u27, u28, u29, u30, u31, u32, u33, u34, u35, u36, u37, u38, u39, u40, u41, u42, u43, u44, u45, u46, u47, u48, u49, u50, u51, u52, u53, u54, u55, u56, u57, u58, u59, u60, u61, u62, u63, u64, u65, u66, u67, u68, u69, u70, u71, u72, u73, u74, u75, u76, u77, u78, u79, u80, u81, u82, u83, u84, u85, u86, u87, u88, u89, u90, u91, u92, u93, u94, x95, x96, x97, x98, x99, x100, x101, x102, x103, x104, x105, x106, x107, x108, x109, x110, x111, x112, x113, x114, x115, x116, x117, x118, x119, x120, x121, x122, x123, x124, x125, x126, x127, x128, x129, x130, x131, x132, x133, x134, x135, x136, x137, x138, x139, x140, x141, x142, x143, x144, x145, x146, x147, x148, x149, x150, x151, x152, x153, x154, x155, x156, x157, x158, x159, x160, x161, x162, x163, x164, x165, x166, x167, x168, x169, x170, x171, x172, x173, x174, x175, x176, x177, x178, x179, x180, x181, x182, x183, x184, x185, x186, x187, x188, x189, x190, x191, x192, x193, x194, x195, x196, x197, x198, x199, x200, x201, x202, x203, x204, x205, x206, x207, x208, u209, u210, u211, u212, u213, u214], defers := [] } wq) :
    Code.wp Tryd.prog (codeOf [1, 1, 1, 1, 1, 1, 0, 1, 1, 1, 1, 0, 1, 1, 1] (Tryd.f3.body.getD .skip)) Q { tmps := #[.int .u64 now, u1, u2, u3, u4, u5, u6, .pointer (some ⟨B, 0, none⟩), .int .i64 (n : Int), u9, u10, u11, u12, u13, .pointer (some ⟨X, 0, none⟩), u15, .int .u64 tx, u17, u18, u19, u20, u21, u22, u23, u24, u25, u26, u27, u28, u29, u30, u31, u32, u33, u34, u35, u36, u37, u38, u39, u40, u41, u42, u43, u44, u45, u46, u47, u48, u49, u50, u51, u52, u53, u54, u55, u56, u57, u58, u59, u60, u61, u62, u63, u64, u65, u66, u67, u68, u69, u70, u71, u72, u73, u74, u75, u76, u77, u78, u79, u80, u81, u82, u83, u84, u85, u86, u87, u88, u89, u90, u91, u92, u93, u94, u95, u96, u97, u98, u99, u100, u101, u102, u103, u104, u105, u106, u107, u108, u109, u110, u111, u112, u113, u114, u115, u116, u117, u118, u119, u120, u121, u122, u123, u124, u125, u126, u127, u128, u129, u130, u131, u132, u133, u134, u135, u136, u137, u138, u139, u140, u141, u142, u143, u144, u145, u146, u147, u148, u149, u150, u151, u152, u153, u154, u155, u156, u157, u158, u159, u160, u161, u162, u163, u164, u165, u166, u167, u168, u169, u170, u171, u172, u173, u174, u175, u176, u177, u178, u179, u180, u181, u182, u183, u184, u185, u186, u187, u188, u189, u190, u191, u192, u193, u194, u195, u196, u197, u198, u199, u200, u201, u202, u203, u204, u205, u206, u207, u208, u209, u210, u211, u212, u213, u214], defers := [] } w3 := by
  have HT := Lib.hid hT
  have HN := Lib.hid hn
  have HTx := Lib.hid htx
  have HX := Lib.hid hX
  have HW := Lib.hid hW
  have HO := Lib.hid hO
  have HQ := Lib.hid hQ
  have HXl := Lib.hid hXl
  clear hT hn htx hX hW hO hQ hXl
  simp only [codeOf, Tryd.f3, Option.getD_some]
  go_wp2_with fail
  with_reducible refine HW.out.nowOf.mono ?_
  rintro e w4 ⟨rfl, rfl⟩
  go_frame
  go_wp2_with fail
  obtain ⟨Y, hY⟩ : ∃ Y, Y = w4.heap.size := ⟨_, rfl⟩
  have hal := (Ch.refl [] w4).alloc (.cells Tryd.zeroCells34 34)
  have HW1 := Lib.hid (HW.out.quiet hal)
  have HO1 := Lib.hid (HO.out.quiet hal)
  have hd1 := U64At.new w4
  rw [← hY] at hd1
  have HD1 := Lib.hid hd1
  have HXY := Lib.hid (show X < Y by rw [hY]; exact HXl.out)
  have HYs := Lib.hid (show Y = w4.heap.size from hY)
  rw [← hY]
  have HAl := Lib.hid (show w4.heap.size ≤ (w4.alloc (.cells Tryd.zeroCells34 34)).heap.size by simp)
  clear hal hd1 hY
  generalize w4.alloc (.cells Tryd.zeroCells34 34) = W1 at *
  go_loopw [19] (fun i wv => ∃ k : Nat, k ≤ n ∧ i = .int .i64 (k : Int) ∧ WF w wv X B cur n (later (PL now z n) cur) ∧ BoolsAt wv X (oF now z n cur) ∧ U64At wv Y (dvN now z cur k) ∧ w4.heap.size ≤ wv.heap.size) (fun i _ => n - (intOf i).toNat)
  case atStart => exact ⟨0, Nat.zero_le _, rfl, HW1.out, HO1.out, by rw [dvN_zero]; exact HD1.out, HAl.out⟩
  case round =>
    obtain ⟨k, hk, rfl, hW, hO, hD, hsz⟩ := hrel
    have hn100 := HN.out
    by_cases hlt : k < n
    · have HF := Lib.hid (hW.find (k := (k : Int)) (wf_small (by omega) (by omega)))
      obtain ⟨e1, e2⟩ := look_later (now := now) (cur := cur) (z := z) hlt
      have hdv : (findS (later (PL now z n) cur) (k : Int)).due = dvJ now z cur k := e2
      obtain ⟨bb, hbb⟩ : ∃ bb, bb = lookB (later (PL now z n) cur) (k : Int) := ⟨_, rfl⟩
      obtain ⟨sp, hsp⟩ : ∃ sp, sp = findS (later (PL now z n) cur) (k : Int) := ⟨_, rfl⟩
      rw [← hsp] at HF hdv
      rw [← hbb] at HF e1
      obtain ⟨lv, sl, sa, sd⟩ := sp
      simp only [] at hdv
      have hob : (bb == oF now z n cur k) = false := by
        rw [e1]
        unfold oF
        by_cases h : cur < dueJ now z k
        · have h2 : ¬ (k < n ∧ dueJ now z k ≤ cur) := by omega
          simp [h, h2]
        · have h2 : k < n ∧ dueJ now z k ≤ cur := by omega
          simp [h, h2]
      obtain ⟨ob, hobe⟩ : ∃ ob, ob = oF now z n cur k := ⟨_, rfl⟩
      rw [← hobe] at hob
      have HWv := Lib.hid hW
      have HOv := Lib.hid hO
      have HDv := Lib.hid hD
      have HSz := Lib.hid hsz
      have HDe := Lib.hid hdv
      have HOb := Lib.hid hobe
      have hk100 : (k : Int) < 100 := by omega
      have hk0 : (0 : Int) ≤ (k : Int) := by omega
      have hkn : (k : Int) < (n : Int) := by omega
      clear hW hO hD e1 e2 hbb hsp hdv hsz hobe
      go_wp2_with fail
      with_reducible refine HF.out.mono ?_
      rintro e w5 ⟨rfl, hc5⟩
      have hc6 := hc5.alloc (.cells #[.int .i64 (lv : Int), .int .i64 sl, .int .u64 sa, .int .u64 sd] 27)
      have HW6 := Lib.hid (HWv.out.quiet hc6)
      have HO6 := Lib.hid (HOv.out.quiet hc6)
      have HD6 := Lib.hid (HDv.out.quiet hc6)
      have HS6 := Lib.hid (Nat.le_trans HSz.out hc6.size)
      have q0 := HO6.out.at' k (by omega)
      rw [← HOb.out] at q0
      have q1 := HD6.out.at' k (by omega)
      have q2 := HD6.out.fr k
      obtain ⟨d0, d1, d2, d3⟩ := Four.new w5 (.int .i64 (lv : Int)) (.int .i64 sl) (.int .u64 sa) (.int .u64 sd) 27
      clear hc5 hc6
      unfold spV
      go_frame
      go_wp2_with fail
      refine ⟨⟨k + 1, by omega, by go_num, HW6.out.chT (setCell_chP _ Y k _) (fun i e => by have := HXY.out; omega) HX.out, HO6.out.chP (setCell_chP _ Y k _) (by have := HXY.out; omega), ?_, by have := HS6.out; simpa [World.setCell] using this⟩, by simp [intOf]; omega⟩
      rw [dvN_succ, ← HDe.out]
      exact HD6.out.set (by omega) sd
    · obtain rfl : n = k := by omega
      have HWv := Lib.hid hW
      have HOv := Lib.hid hO
      have HDv := Lib.hid hD
      have HSz := Lib.hid hsz
      clear hW hO hD hsz
      go_wp2_with fail
      with_reducible refine (HWv.out.to HT.out HTx.out).mono ?_
      rintro e w5 ⟨v, rfl, hr5, hw5, hc5⟩
      rw [later_max] at hw5
      obtain ⟨zs, hzs⟩ : ∃ zs, zs = outs (later (PL now z n) cur) tx := ⟨_, rfl⟩
      rw [← hzs] at hr5
      obtain ⟨m, hm⟩ : ∃ m, m = zs.length := ⟨_, rfl⟩
      rw [← hm] at hr5
      have HZ := Lib.hid hzs
      have HM := Lib.hid hm
      obtain ⟨a5, cp5, rfl⟩ := own_form hr5
      have HW5 := Lib.hid hw5
      have HO5 := Lib.hid (HOv.out.chP hc5 (by omega))
      have HD5 := Lib.hid (HDv.out.chP hc5 (by have := HXY.out; omega))
      have HS5 := Lib.hid (Nat.le_trans HSz.out hc5.size)
      obtain ⟨E, hE⟩ : ∃ E, E = wr.heap.size := ⟨_, rfl⟩
      have HEX := Lib.hid (show X < E by rw [hE]; have := HSz.out; have := HXl.out; omega)
      rw [← hE] at hr5
      have HR5 := Lib.hid hr5
      have HYl := Lib.hid HDv.out.lt
      have hm100 : m ≤ 256 := by
        rw [hm, hzs, outs_length]
        have h1 := upto_length (later (PL now z n) cur) tx
        have h2 : (later (PL now z n) cur).length ≤ (PL now z n).length := List.length_filter_le _ _
        have h3 := PL_length now z n
        have h4 := HN.out
        omega
      clear hw5 hc5 hr5 hzs hm hE
      go_frame
      go_wp2_with fail
      go_loopw [23] (fun i wv => ∃ k : Nat, k ≤ m ∧ i = .int .i64 (k : Int) ∧ WF w wv X B (max cur tx) n (later (PL now z n) (max cur tx)) ∧ BoolsAt wv X (oK now z n cur zs k) ∧ U64At wv Y (dvN now z cur n) ∧ wv.ownsRow E 3 1 (.slice a5 m cp5) m (zs.map iv) ∧ w4.heap.size ≤ wv.heap.size) (fun i _ => m - (intOf i).toNat)
      case atStart => exact ⟨0, Nat.zero_le _, rfl, HW5.out, by rw [oK_zero]; exact HO5.out, HD5.out, HR5.out, HS5.out⟩
      case round =>
        obtain ⟨k, hk, rfl, hW, hO, hD, hR, hsz⟩ := hrel
        by_cases hlt : k < m
        · obtain ⟨g, rfl, _, hgl, _, hcell⟩ := own_cells hR 0 (by omega)
          have hkz : k < zs.length := by rw [← HM.out]; exact hlt
          have hzk := zs_at (now := now) (cur := cur) (tx := tx) (z := z) (n := n) (k := k) (by rw [← HZ.out]; exact hkz)
          have hno := oK_no (now := now) (cur := cur) (tx := tx) (z := z) (n := n) (k := k) (by rw [← HZ.out]; exact hkz)
          have hsu := oK_succ (now := now) (cur := cur) (tx := tx) (z := z) (n := n) (k := k) (by rw [← HZ.out]; exact hkz)
          rw [← HZ.out] at hzk hno hsu
          obtain ⟨d, hd⟩ : ∃ d, d = dz zs k := ⟨_, rfl⟩
          rw [← hd] at hzk hno hsu
          obtain ⟨h1, h2, h3, h4⟩ := hzk
          have hn100 := HN.out
          have hl : wr.cell? ⟨g, k, none⟩ = some (.int .i64 (d : Int)) := by
            rw [hcell k (by omega), List.getElem?_map, h1]
            rfl
          have q0 := hO.at' d (by omega)
          rw [hno] at q0
          have q1 := hD.at' d (by omega)
          have hdd : dvN now z cur n d = dueJ now z d := by unfold dvN dvJ; rw [if_pos h2, if_pos h3]
          rw [hdd] at q1
          have q2 := hO.fr d
          have HPv := Lib.hid (show ∀ p : Nat, p + 1 = k → ∃ d' : Nat, d' < 100 ∧ wr.cell? ⟨g, p, none⟩ = some (.int .i64 (d' : Int)) ∧ wr.cell? ⟨Y, d', none⟩ = some (.int .u64 (dueJ now z d')) ∧ dueJ now z d' ≤ dueJ now z d from fun p hp => by
            have hzp := zs_at (now := now) (cur := cur) (tx := tx) (z := z) (n := n) (k := p) (by rw [← HZ.out]; omega)
            have hso := zs_sorted (now := now) (cur := cur) (tx := tx) (z := z) (n := n) (k := p) (by rw [← HZ.out]; omega)
            rw [← HZ.out] at hzp hso
            rw [hp, ← hd] at hso
            obtain ⟨g1, g2, g3, g4⟩ := hzp
            refine ⟨dz zs p, by omega, ?_, ?_, hso⟩
            · rw [hcell p (by omega), List.getElem?_map, g1]
              rfl
            · rw [hD.at' _ (by omega)]
              unfold dvN dvJ
              rw [if_pos g2, if_pos g3])
          have HSu := Lib.hid hsu
          have HWv := Lib.hid hW
          have HOv := Lib.hid hO
          have HDv := Lib.hid hD
          have HRv := Lib.hid hR
          have HSz4 := Lib.hid hsz
          have t1 : decide ((d : Int) < 0) = false := decide_eq_false (by omega)
          have t2 : decide ((n : Int) ≤ (d : Int)) = false := decide_eq_false (by omega)
          have t2' : decide (n ≤ d) = false := decide_eq_false (by omega)
          have t2n : d < n := h2
          have t3 : decide (tx < dueJ now z d) = false := decide_eq_false (by omega)
          have t4 : decide (dueJ now z d ≤ cur) = false := decide_eq_false (by omega)
          have b1 : (0 : Int) ≤ (d : Int) := by omega
          have b2 : (d : Int) < 100 := by omega
          have b3 : (0 : Int) ≤ (k : Int) := by omega
          have b4 : (k : Int) < (m : Int) := by omega
          have hd100 : d < 100 := by omega
          clear h1 h2 h3 h4 hsu hno hW hO hD hR hsz hcell hd hdd hgl hkz
          rcases Nat.eq_zero_or_pos k with hk0 | hk0
          · subst hk0
            generalize dueJ now z d = D at *
            go_wp2_with fail
            go_quiet (fail)
            go_wp2_with fail
            refine ⟨⟨0 + 1, by omega, by go_num, (HWv.out.quiet ((Ch.refl [] wr).drewN _)).chT (setCell_chP _ X d _) (fun i e => by omega) HX.out, ?_, (HDv.out.quiet ((Ch.refl [] wr).drewN _)).chP (setCell_chP _ X d _) (by have := HXY.out; omega), own_chP (own_ch HRv.out ((Ch.refl [] wr).drewN _) (by simp)) (setCell_chP _ X d _) (fun i hi e => by have := HEX.out; have := (HRv.out.lt i hi).1; omega), by have := HSz4.out; simpa [World.setCell] using this⟩, by simp [intOf]; omega⟩
            rw [HSu.out]
            exact (HOv.out.quiet ((Ch.refl [] wr).drewN _)).set (by omega) true
          · obtain ⟨p, hp⟩ : ∃ p, p + 1 = k := ⟨k - 1, by omega⟩
            obtain ⟨d', e1, e2, e3, e4⟩ := HPv.out p hp
            have t5 : decide ((0 : Int) < (k : Int)) = true := decide_eq_true (by omega)
            have t5' : decide (0 < k) = true := decide_eq_true (by omega)
            have t6 : decide (dueJ now z d < dueJ now z d') = false := decide_eq_false (by omega)
            have hs1 : IntKind.i64.wrap ((k : Int) - 1) = (p : Int) := by rw [show (k : Int) - 1 = (p : Int) by omega]; simp [IntKind.wrap, IntKind.bits, IntKind.signed]; omega
            have b5 : (0 : Int) ≤ (p : Int) := by omega
            have b6 : (p : Int) < (m : Int) := by omega
            have b7 : (0 : Int) ≤ (d' : Int) := by omega
            have b8 : (d' : Int) < 100 := by omega
            have hpk : (k : Int) - 1 = (p : Int) := by omega
            clear hp hk0 e4
            generalize dueJ now z d = D at *
            generalize dueJ now z d' = D' at *
            go_wp2_with fail
            go_quiet (fail)
            go_wp2_with fail
            refine ⟨⟨k + 1, by omega, by go_num, (HWv.out.quiet ((Ch.refl [] wr).drewN _)).chT (setCell_chP _ X d _) (fun i e => by omega) HX.out, ?_, (HDv.out.quiet ((Ch.refl [] wr).drewN _)).chP (setCell_chP _ X d _) (by have := HXY.out; omega), own_chP (own_ch HRv.out ((Ch.refl [] wr).drewN _) (by simp)) (setCell_chP _ X d _) (fun i hi e => by have := HEX.out; have := (HRv.out.lt i hi).1; omega), by have := HSz4.out; simpa [World.setCell] using this⟩, by simp [intOf]; omega⟩
            rw [HSu.out]
            exact (HOv.out.quiet ((Ch.refl [] wr).drewN _)).set (by omega) true
        · obtain rfl : m = k := by omega
          have hz : zs.length = m := HM.out.symm
          have hoa := oK_all (now := now) (cur := cur) (tx := tx) (z := z) (n := n)
          rw [← HZ.out, hz] at hoa
          rw [hoa] at hO
          have HWv := Lib.hid hW
          have HOv := Lib.hid hO
          have HDv := Lib.hid hD
          have HSz5 := Lib.hid hsz
          clear hW hO hD hR hsz hz hoa
          go_wp2_with fail
          go_loopw [24] (fun i wv => ∃ k : Nat, k ≤ n ∧ i = .int .i64 (k : Int) ∧ WF w wv X B (max cur tx) n (later (PL now z n) (max cur tx)) ∧ BoolsAt wv X (oF now z n (max cur tx)) ∧ U64At wv Y (dvN now z cur n) ∧ w4.heap.size ≤ wv.heap.size) (fun i _ => n - (intOf i).toNat)
          case atStart => exact ⟨0, Nat.zero_le _, rfl, HWv.out, HOv.out, HDv.out, HSz5.out⟩
          case round =>
            obtain ⟨k, hk, rfl, hW, hO, hD, hsz⟩ := hrel
            have hn100 := HN.out
            by_cases hlt : k < n
            · have q0 := hO.at' k (by omega)
              have q1 := hD.at' k (by omega)
              have HWv := Lib.hid hW
              have HOv := Lib.hid hO
              have HDv := Lib.hid hD
              have HSz6 := Lib.hid hsz
              have b1 : (0 : Int) ≤ (k : Int) := by omega
              have b2 : (k : Int) < 100 := by omega
              have b3 : (k : Int) < (n : Int) := by omega
              by_cases hdue : dueJ now z k ≤ max cur tx
              · have ho : oF now z n (max cur tx) k = true := by unfold oF; simp [hlt, hdue]
                rw [ho] at q0
                generalize dvN now z cur n k = D at *
                clear hW hO hD hsz hdue ho
                go_wp2_with fail
                go_quiet (fail)
                go_wp2_with fail
                refine ⟨⟨k + 1, by omega, by go_num, HWv.out.quiet ((Ch.refl [] wr).drewN _), HOv.out.quiet ((Ch.refl [] wr).drewN _), HDv.out.quiet ((Ch.refl [] wr).drewN _), HSz6.out⟩, by simp [intOf]; omega⟩
              · have ho : oF now z n (max cur tx) k = false := by unfold oF; simp [hdue]
                have hdv : dvN now z cur n k = dueJ now z k := by unfold dvN dvJ; rw [if_pos hlt, if_pos (by omega)]
                have t1 : decide (dueJ now z k ≤ max cur tx) = false := decide_eq_false hdue
                rw [ho] at q0
                rw [hdv] at q1
                generalize dueJ now z k = D at *
                clear hW hO hD hsz ho hdv hdue
                go_wp2_with fail
                go_quiet (first | (go_at_call 11; exact Calls.quiet_of_same (HWv.out.quiet ((Ch.refl [] wr).drewN _)).nowOf))
                go_wp2_with fail
                refine ⟨⟨k + 1, by omega, by go_num, HWv.out.quiet ((Ch.refl [] wr).drewN _), HOv.out.quiet ((Ch.refl [] wr).drewN _), HDv.out.quiet ((Ch.refl [] wr).drewN _), HSz6.out⟩, by simp [intOf]; omega⟩
            · obtain rfl : n = k := by omega
              have HWv := Lib.hid hW
              have HOv := Lib.hid hO
              have HSz6 := Lib.hid hsz
              clear hW hO hD hsz
              go_wp2_with fail
              exact HQ.out HWv.out HOv.out HSz6.out
end Go.Proofs.YtcjemidflbfljaaDoor

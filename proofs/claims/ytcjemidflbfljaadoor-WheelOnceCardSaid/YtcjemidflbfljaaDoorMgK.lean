/-
  Two wheels of a law's own, and a row that is appended to.
  WheelSteps, walked.
-/
import Derived.Test.YtcjemidflbfljaaDoorMgI
import Derived.Test.YtcjemidflbfljaaDoorMgJ
namespace Go.Proofs.YtcjemidflbfljaaDoor
open Go.RowKit Go.Maps

/-- append of a row that may be nil to a row that may be nil. -/
theorem wpList_append_rows {P : Program} {w : World} {ops : Array Oper} {rest : List Oper} {o : Oper} {a : Act} {Q : Exit → Act → World → Prop} (hgd : o.guard = none) (s x : Operand) (t : TypeId)
    (ho : o.op = .call { callee := .builtin .append, args := #[s, x], argTypes := #[t, t] })
    (base : Nat) (e : TypeId) (i : TypeInfo) (z : Value) (size bytes : Nat) (ht : P.underlying t = some (.slice e)) (hi : P.info? e = some i) (hz : i.zero = some z)
    (hsize : i.size = size) (hby : i.bytes = bytes) (hzs : z.cells.size = size) (hsz : 0 < size)
    (v : Value) (n : Nat) (xs : List Value) (hs : a.eval s = v) (hown : w.ownsRow base e size v n xs)
    (S : Nat) (vx : Value) (m : Nat) (news : List Value) (hx : a.eval x = vx) (hsrc : w.ownsRow S e size vx m news) (h1 : ∀ u ∈ news, u.oneCell' = true)
    (h63 : n + m ≤ maxLen) (hbytes : (n + m) * bytes ≤ 140737488355328) (hbase : base ≤ w.heap.size)
    (h : ∀ v' w', w'.ownsRow base e size v' (n + m) (xs ++ news) → w.grownBy w' v.ownBlock → (v'.ownBlock = v.ownBlock ∨ v'.ownBlock = some w.heap.size) → wpList P ops Q rest (a.put o.dst v') w') : wpList P ops Q (o :: rest) a w := by
  have hl := hsrc.1
  rcases hsrc.2 with ⟨rfl, rfl⟩ | ⟨g, cp, cur, rfl, _⟩
  · obtain rfl : news = [] := List.eq_nil_of_length_eq_zero (by simpa using hl)
    refine wpList_append_own_none hgd s x t ho base e i size ht hi v n xs hs hown hx (h v w (by simpa using hown) ⟨rfl, rfl, rfl, Nat.le_refl _, fun _ _ _ => rfl⟩ (.inl rfl))
  · exact wpList_append_own_at w hgd s x t ho base e i z size bytes ht hi hz hsize hby hzs hsz v n xs hs hown ⟨g, 0, none⟩ m cp news hx hl (hsrc.cells rfl) h1 h63 hbytes hbase
      (fun v' w' h2 h3 _ h5 => h v' w' h2 h3 h5)

/-- Wheels A and B, and a row of numbers. -/
structure WS (w0 w : World) (A B : Nat) (na nb : Int) (pa pb : Nat) (LA LB : List Tm) (v : Value) (zs : List Int) : Prop where
  sep : ∃ Sa Sb : Nat → Prop, WB w w0.heap.size A Sa na pa LA ∧ WB w w0.heap.size B Sb nb pb LB ∧ (∀ k, Sa k → ¬ Sb k) ∧ ∀ g, v.ownBlock = some g → ¬ Sa g ∧ ¬ Sb g
  row : w.ownsRow w0.heap.size 3 1 v zs.length (zs.map iv)
  bel : Below w0.heap.size w0 w
section
variable {w0 w w' : World} {A B : Nat} {na nb : Int} {pa pb : Nat} {LA LB : List Tm} {v : Value} {zs : List Int}
theorem WS.swap (h : WS w0 w A B na nb pa pb LA LB v zs) : WS w0 w B A nb na pb pa LB LA v zs := by
  obtain ⟨Sa, Sb, h1, h2, h3, h4⟩ := h.sep
  exact ⟨⟨Sb, Sa, h2, h1, fun k hb ha => h3 k ha hb, fun g hg => ⟨(h4 g hg).2, (h4 g hg).1⟩⟩, h.row, h.bel⟩
theorem WS.wiA (h : WS w0 w A B na nb pa pb LA LB v zs) : WI na pa LA := by obtain ⟨Sa, Sb, h1, _⟩ := h.sep; exact h1.wi
theorem WS.wiB (h : WS w0 w A B na nb pa pb LA LB v zs) : WI nb pb LB := by obtain ⟨Sa, Sb, _, h1, _⟩ := h.sep; exact h1.wi
theorem WS.tab (h : WS w0 w A B na nb pa pb LA LB v zs) (hT : Mk.Tab w0) : Mk.Tab w := hT.below h.bel (tab_lt hT)
theorem WS.quiet (h : WS w0 w A B na nb pa pb LA LB v zs) (hc : Ch [] w w') : WS w0 w' A B na nb pa pb LA LB v zs := by
  obtain ⟨Sa, Sb, h1, h2, h3, h4⟩ := h.sep
  exact ⟨⟨Sa, Sb, h1.quiet hc, h2.quiet hc, h3, h4⟩, own_ch h.row hc (by simp), h.bel.trans (hc.below _ (fun k hk => by simp at hk) h.bel.size)⟩
theorem WS.below (h : WS w0 w A B na nb pa pb LA LB v zs) (hc : Below w.heap.size w w') : WS w0 w' A B na nb pa pb LA LB v zs := h.quiet (.of_below hc)
theorem WS.new2 {now : Int} (hn : Wd now) (w : World) : ∀ w1, WB w1 w.heap.size w.heap.size (fun k => k = w.heap.size) now 0 [] → Ch [] w w1 → w1.heap.size = w.heap.size + 1 →
    Calls Tryd.prog 8 #[.int .u64 now] w1 fun e w' => e = .returned (.pointer (some ⟨w.heap.size + 1, 0, none⟩)) ∧ WS w w' w.heap.size (w.heap.size + 1) now now 0 0 [] [] (.slice none 0 0) [] := fun w1 hw hc hs => by
  refine (new_any hn w1 hc.size (w.heap.size + 1) hs).mono fun e w' ⟨he, hw', hc', hs'⟩ => ⟨he, ⟨⟨_, _, hw.quiet hc', hw', fun k e1 e2 => by omega, fun g hg => by simp [Value.ownBlock] at hg⟩, World.ownsRow_nil _ _ _ _, (hc.trans hc').below _ (fun k hk => by simp at hk) (Nat.le_refl _)⟩⟩
theorem WS.putA (h : WS w0 w A B na nb pa pb LA LB v zs) {id : Int} (h0 : 0 ≤ id) (h1 : id < 256) (hno : ∀ t ∈ LA, t.id ≠ id) {at' : Int} (ha : Wd at') (hm : na ≠ 18446744073709551615) (hp : pa < 4611686018427387904) :
    Calls Tryd.prog 9 #[.pointer (some ⟨A, 0, none⟩), .int .i64 id, .int .u64 at'] w fun e w' => e = .returned (.tuple #[spV (placeV na at'), .int .i64 0]) ∧ WS w0 w' A B na nb (pa + 1) pb (LA ++ [⟨id, placeV na at', pa⟩]) LB v zs := by
  obtain ⟨Sa, Sb, k1, k2, k3, k4⟩ := h.sep
  refine (put_ok k1 h0 h1 hno ha hm hp).mono fun _ _ ⟨he, hw', hc⟩ => ⟨he, ⟨⟨_, Sb, hw', k2.frame hc (fun k hb ha => k3 k ha hb), fun k hk hb => ?_, fun g hg => ⟨fun hk => ?_, (k4 g hg).2⟩⟩, own_chP h.row hc (fun g hg => (k4 g hg).1), h.bel.trans (hc.below _ k1.wc.lo h.bel.size)⟩⟩
  · rcases hk with hk | hk
    · exact k3 k hk hb
    · have := k2.hi k hb; omega
  · rcases hk with hk | hk
    · exact (k4 g hg).1 hk
    · have := (h.row.lt g hg).2; omega
theorem WS.putB (h : WS w0 w A B na nb pa pb LA LB v zs) {id : Int} (h0 : 0 ≤ id) (h1 : id < 256) (hno : ∀ t ∈ LB, t.id ≠ id) {at' : Int} (ha : Wd at') (hm : nb ≠ 18446744073709551615) (hp : pb < 4611686018427387904) :
    Calls Tryd.prog 9 #[.pointer (some ⟨B, 0, none⟩), .int .i64 id, .int .u64 at'] w fun e w' => e = .returned (.tuple #[spV (placeV nb at'), .int .i64 0]) ∧ WS w0 w' A B na nb pa (pb + 1) LA (LB ++ [⟨id, placeV nb at', pb⟩]) v zs :=
  (h.swap.putA h0 h1 hno ha hm hp).mono fun _ _ ⟨he, hw⟩ => ⟨he, hw.swap⟩
/-- Put into B behind a block that was laid: it stays. -/
theorem WS.putB2 (h : WS w0 w A B na nb pa pb LA LB v zs) (o : Obj) {id : Int} (h0 : 0 ≤ id) (h1 : id < 256) (hno : ∀ t ∈ LB, t.id ≠ id) {at' : Int} (ha : Wd at') (hm : nb ≠ 18446744073709551615) (hp : pb < 4611686018427387904) :
    Calls Tryd.prog 9 #[.pointer (some ⟨B, 0, none⟩), .int .i64 id, .int .u64 at'] (w.alloc o) fun e w' => e = .returned (.tuple #[spV (placeV nb at'), .int .i64 0]) ∧ WS w0 w' A B na nb pa (pb + 1) LA (LB ++ [⟨id, placeV nb at', pb⟩]) v zs ∧
      ∀ i, w'.cell? ⟨w.heap.size, i, none⟩ = (w.alloc o).cell? ⟨w.heap.size, i, none⟩ := by
  have hal := h.quiet ((Ch.refl [] w).alloc o)
  obtain ⟨Sa, Sb, k1, k2, k3, k4⟩ := h.sep
  have hal1 := (Ch.refl [] w).alloc o
  refine (put_ok (k2.quiet hal1) h0 h1 hno ha hm hp).mono fun _ _ ⟨he, hw', hc⟩ => ⟨he, ⟨⟨Sa, _, (k1.quiet hal1).frame hc (fun k ha hb => k3 k ha hb), hw', fun k ha hk => ?_, fun g hg => ⟨(k4 g hg).1, fun hk => ?_⟩⟩, own_chP hal.row hc (fun g hg => (k4 g hg).2), hal.bel.trans (hc.below _ k2.wc.lo hal.bel.size)⟩, fun i => hc.cell (p := ⟨w.heap.size, i, none⟩) (by simp) (fun e => by have := k2.hi _ e; simp at this)⟩
  · rcases hk with hk | hk
    · exact k3 k ha hk
    · have := k1.hi k ha; have := World.size_alloc w o; omega
  · rcases hk with hk | hk
    · exact (k4 g hg).2 hk
    · have := (h.row.lt g hg).2; have := World.size_alloc w o; omega
theorem WS.fullA (h : WS w0 w A B na nb pa pb LA LB v zs) (hm : na = 18446744073709551615) {id : Int} (h0 : 0 ≤ id) (h1 : id < 256) (hno : ∀ t ∈ LA, t.id ≠ id) (at' : Int) :
    Calls Tryd.prog 9 #[.pointer (some ⟨A, 0, none⟩), .int .i64 id, .int .u64 at'] w fun e w' => e = .returned (.tuple #[spz, .int .i64 12]) ∧ WS w0 w' A B na nb pa pb LA LB v zs ∧ Ch [] w w' := by
  subst hm
  obtain ⟨Sa, Sb, k1, k2, k3, k4⟩ := h.sep
  exact (put_max k1 h0 h1 hno at').mono fun _ _ ⟨he, hc⟩ => ⟨he, h.quiet hc, hc⟩
theorem WS.fullB (h : WS w0 w A B na nb pa pb LA LB v zs) (hm : nb = 18446744073709551615) {id : Int} (h0 : 0 ≤ id) (h1 : id < 256) (hno : ∀ t ∈ LB, t.id ≠ id) (at' : Int) :
    Calls Tryd.prog 9 #[.pointer (some ⟨B, 0, none⟩), .int .i64 id, .int .u64 at'] w fun e w' => e = .returned (.tuple #[spz, .int .i64 12]) ∧ WS w0 w' A B na nb pa pb LA LB v zs ∧ Ch [] w w' :=
  (h.swap.fullA hm h0 h1 hno at').mono fun _ _ ⟨he, hw, hc⟩ => ⟨he, hw.swap, hc⟩
theorem WS.toA (h : WS w0 w A B na nb pa pb LA LB v zs) (hT : Mk.Tab w0) {x : Int} (hx : Wd x) :
    Calls Tryd.prog 13 #[.pointer (some ⟨A, 0, none⟩), .int .u64 x] w fun e w' =>
      ∃ u, e = .returned u ∧ w'.ownsRow w.heap.size 3 1 u (outs LA x).length ((outs LA x).map iv) ∧ WS w0 w' A B (max na x) nb pa pb (later LA x) LB v zs := by
  obtain ⟨Sa, Sb, k1, k2, k3, k4⟩ := h.sep
  rcases Int.lt_or_le na x with hlt | hle
  · refine (to_any k1 (h.tab hT) hx hlt).mono fun _ _ ⟨u, he, hr, hw', hc⟩ => ⟨u, he, hr, ?_⟩
    rw [show max na x = x by omega]
    exact ⟨⟨Sa, Sb, hw', k2.frame hc (fun k hb ha => k3 k ha hb), k3, k4⟩, own_chP h.row hc (fun g hg => (k4 g hg).1), h.bel.trans (hc.below _ k1.wc.lo h.bel.size)⟩
  · refine (to_less k1 hle).mono fun _ _ ⟨he, hc⟩ => ⟨_, he, ?_, ?_⟩
    · rw [outs_nil (fun t ht => by have := (k1.wi.fits t ht).ahead; omega)]
      exact World.ownsRow_nil _ _ _ _
    · rw [later_all (fun t ht => by have := (k1.wi.fits t ht).ahead; omega), show max na x = na by omega]
      exact h.quiet hc
theorem WS.toB (h : WS w0 w A B na nb pa pb LA LB v zs) (hT : Mk.Tab w0) {x : Int} (hx : Wd x) :
    Calls Tryd.prog 13 #[.pointer (some ⟨B, 0, none⟩), .int .u64 x] w fun e w' =>
      ∃ u, e = .returned u ∧ w'.ownsRow w.heap.size 3 1 u (outs LB x).length ((outs LB x).map iv) ∧ WS w0 w' A B na (max nb x) pa pb LA (later LB x) v zs :=
  (h.swap.toA hT hx).mono fun _ _ ⟨u, he, hr, hw⟩ => ⟨u, he, hr, hw.swap⟩
theorem WS.nowA (h : WS w0 w A B na nb pa pb LA LB v zs) : Calls Tryd.prog 11 #[.pointer (some ⟨A, 0, none⟩)] w fun e w' => e = .returned (.int .u64 na) ∧ w' = w := by
  obtain ⟨Sa, Sb, k1, _⟩ := h.sep
  exact now_any k1
theorem WS.nowB (h : WS w0 w A B na nb pa pb LA LB v zs) : Calls Tryd.prog 11 #[.pointer (some ⟨B, 0, none⟩)] w fun e w' => e = .returned (.int .u64 nb) ∧ w' = w := h.swap.nowA
theorem WS.idsA (h : WS w0 w A B na nb pa pb LA LB v zs) : Calls Tryd.prog 16 #[.pointer (some ⟨A, 0, none⟩)] w fun e w' => ∃ u, e = .returned u ∧ w'.ownsRow w.heap.size 3 1 u LA.length ((idsL LA).map iv) ∧ Below w.heap.size w w' := by
  obtain ⟨Sa, Sb, k1, _⟩ := h.sep
  exact ids_any k1
theorem WS.idsB (h : WS w0 w A B na nb pa pb LA LB v zs) : Calls Tryd.prog 16 #[.pointer (some ⟨B, 0, none⟩)] w fun e w' => ∃ u, e = .returned u ∧ w'.ownsRow w.heap.size 3 1 u LB.length ((idsL LB).map iv) ∧ Below w.heap.size w w' := h.swap.idsA
/-- The row behind an append. -/
theorem WS.appended (h : WS w0 w A B na nb pa pb LA LB v zs) {v' : Value} {ys : List Int} (hr : w'.ownsRow w0.heap.size 3 1 v' (zs.length + ys.length) (zs.map iv ++ ys.map iv)) (hg : w.grownBy w' v.ownBlock) (hat : v'.ownBlock = v.ownBlock ∨ v'.ownBlock = some w.heap.size) :
    WS w0 w' A B na nb pa pb LA LB v' (zs ++ ys) := by
  obtain ⟨Sa, Sb, k1, k2, k3, k4⟩ := h.sep
  have hc : ChP (fun k => v.ownBlock = some k) w w' := .grown hg (fun r e => e)
  refine ⟨⟨Sa, Sb, k1.frame hc (fun k hk e => (k4 k e).1 hk), k2.frame hc (fun k hk e => (k4 k e).2 hk), k3, fun g hg' => ?_⟩, by rw [List.length_append, List.map_append]; exact hr, h.bel.trans (hc.below _ (fun k e => (h.row.lt k e).1) h.bel.size)⟩
  rcases hat with e | e
  · exact k4 g (by rw [← e]; exact hg')
  · rw [e] at hg'
    cases hg'
    exact ⟨fun hk => by have := k1.hi _ hk; omega, fun hk => by have := k2.hi _ hk; omega⟩
end
/-- However far at once. -/
theorem outs_max {L : List Tm} (hr : Rising L) (d e : Int) : outs L d ++ outs (later L d) e = outs L (max d e) := by
  rcases Int.le_total d e with h | h
  · rw [show max d e = e by omega]; exact outs_two hr h
  · rw [show max d e = d by omega, outs_nil (L := later L d) (fun t ht => by have := (later_mem.1 ht).2; omega), List.append_nil]
theorem later_max (L : List Tm) (d e : Int) : later (later L d) e = later L (max d e) := by
  rcases Int.le_total d e with h | h
  · rw [show max d e = e by omega]; exact upto_later L h
  · rw [show max d e = d by omega]
    exact later_all (fun t ht => by have := (later_mem.1 ht).2; omega)
end Go.Proofs.YtcjemidflbfljaaDoor
namespace Go.Proofs.YtcjemidflbfljaaDoor
open Go.RowKit Go.Maps

attribute [local go_sem] Oper.semAt_some

theorem idsL_len (L : List Tm) : (idsL L).length = L.length := idsL_length L
set_option maxRecDepth 100000 in
set_option maxHeartbeats 4000000 in
theorem steps_some {now en : Int} (hn : Wd now) (hm : now ≠ 18446744073709551615) (he : Wd en) (a2 : Option Addr) (len2 cap2 : Nat) (z2 : Nat → Int) (a3 : Option Addr) (len3 cap3 : Nat) (z3 : Nat → Int) (w : World) (hT : Mk.Tab w) (hlc2 : len2 ≤ cap2) (hcm2 : cap2 ≤ 9223372036854775807) (hzz2 : WordsAt w a2 len2 z2) (hlc3 : len3 ≤ cap3) (hcm3 : cap3 ≤ 9223372036854775807) (hzz3 : WordsAt w a3 len3 z3) :
    Calls Tryd.prog 4 #[.int .u64 now, .int .u64 en, .slice a2 len2 cap2, .slice a3 len3 cap3] w fun e w' => e = .returned (.bool true) ∧ Below w.heap.size w w' := by
  have HT := Lib.hid hT
  have HNow := Lib.hid hn
  have HMx := Lib.hid hm
  have HEn := Lib.hid he
  have HZ2 := Lib.hid hzz2
  have HZ3 := Lib.hid hzz3
  have hlm2 : (len2 : Int) ≤ 9223372036854775807 := by omega
  have hlm3 : (len3 : Int) ≤ 9223372036854775807 := by omega
  obtain ⟨i0, hI, hz0, hz1, hz2⟩ := info_parts infoI
  clear hT hn hm he hlc2 hcm2 hzz2 hlc3 hcm3 hzz3
  go_enter Tryd.func4, Tryd.ntmps4
  go_wp2_with fail
  with_reducible refine (new_any HNow.out w (base := w.heap.size) (Nat.le_refl _) _ rfl).mono ?_
  rintro e w1 ⟨rfl, hw1, hc1, hs1⟩
  have HN2 := Lib.hid (WS.new2 HNow.out w w1 hw1 hc1 hs1)
  clear hw1 hc1 hs1
  go_frame
  go_wp2_with fail
  with_reducible refine HN2.out.mono ?_
  rintro e w2 ⟨rfl, hs2⟩
  have HS2 := Lib.hid hs2
  clear hs2
  go_frame
  go_wp2_with fail
  go_loopw [11] (fun i wr => ∃ k : Nat, k ≤ len2 ∧ k ≤ 100 ∧ i = .int .i64 (k : Int) ∧ WS w wr w.heap.size (w.heap.size + 1) now now k k (PL now z2 k) (PL now z2 k) (.slice none 0 0) []) (fun i _ => 100 - (intOf i).toNat)
  case atStart => exact ⟨0, Nat.zero_le _, Nat.zero_le _, rfl, HS2.out⟩
  case round =>
    obtain ⟨k, hk, hk100, rfl, hwk⟩ := hrel
    by_cases hlt : k < len2
    · by_cases hlt2 : k < 100
      · obtain ⟨b, off, rfl, hc⟩ := HZ2.out.cellBelow hwk.bel hlt
        have hPut := Lib.hid (hwk.putA (id := (k : Int)) (by omega) (by omega) PL_no (HZ2.out.wd k) HMx.out (by omega))
        have HPut2 := Lib.hid (fun W o (h : WS w W w.heap.size (w.heap.size + 1) now now (k + 1) k (PL now z2 k ++ [⟨(k : Int), placeV now (z2 k), k⟩]) (PL now z2 k) (.slice none 0 0) []) => h.putB2 o (id := (k : Int)) (by omega) (by omega) PL_no (HZ2.out.wd k) HMx.out (by omega))
        have HZc := Lib.hid (fun W (hb : Below w.heap.size w W) => HZ2.out.cellBelow hb hlt)
        have HPs := Lib.hid (PL_succ now z2 k)
        have hb0 : (0 : Int) ≤ (k : Int) := by omega
        have hb1 : (k : Int) < (len2 : Int) := by omega
        have hb2 : (k : Int) < 100 := by omega
        generalize placeV now (z2 k) = sp at hPut HPut2 HPs
        obtain ⟨lv, sl, sa, sd⟩ := sp
        obtain ⟨x, hx⟩ : ∃ x, x = z2 k := ⟨_, rfl⟩
        rw [← hx] at hc hPut HPut2 HZc
        clear hwk hx
        go_wp2_with fail
        with_reducible refine hPut.out.mono ?_
        rintro e w3 ⟨rfl, hk3⟩
        have hal := hk3.quiet ((Ch.refl [] w3).alloc (.cells #[.int .i64 (lv : Int), .int .i64 sl, .int .u64 sa, .int .u64 sd] 27))
        obtain ⟨b', off', he', hc'⟩ := HZc.out _ hal.bel
        cases he'
        have HF3 := Lib.hid (Four.new w3 (.int .i64 (lv : Int)) (.int .i64 sl) (.int .u64 sa) (.int .u64 sd) 27)
        have HK3 := Lib.hid (HPut2.out w3 (.cells #[.int .i64 (lv : Int), .int .i64 sl, .int .u64 sa, .int .u64 sd] 27) hk3)
        clear hk3 hal hc
        unfold spV
        go_frame
        go_wp2_with fail
        with_reducible refine HK3.out.mono ?_
        rintro e w4 ⟨rfl, hk4, hcells⟩
        obtain ⟨X3, hX3⟩ : ∃ X3, X3 = w3.heap.size := ⟨_, rfl⟩
        have hF4 : Four w4 X3 (.int .i64 (lv : Int)) (.int .i64 sl) (.int .u64 sa) (.int .u64 sd) := by
          rw [hX3]
          exact ⟨(hcells 0).trans HF3.out.c0, (hcells 1).trans HF3.out.c1, (hcells 2).trans HF3.out.c2, (hcells 3).trans HF3.out.c3⟩
        have hal4 := (Ch.refl [] w4).alloc (.cells #[.int .i64 (lv : Int), .int .i64 sl, .int .u64 sa, .int .u64 sd] 27)
        have HK4 := Lib.hid (hk4.quiet hal4)
        have hF5 := hF4.ch hal4 (by simp)
        obtain ⟨c0, c1, c2, c3⟩ := hF5
        obtain ⟨d0, d1, d2, d3⟩ := Four.new w4 (.int .i64 (lv : Int)) (.int .i64 sl) (.int .u64 sa) (.int .u64 sd) 27
        rw [← hX3]
        clear hk4 hcells hF4 hal4 hc' hX3
        unfold spV
        go_frame
        go_wp2_with fail
        refine ⟨⟨k + 1, by omega, by omega, by go_num, by rw [HPs.out]; exact HK4.out⟩, by simp [intOf]; omega⟩
      · have hb1 : (k : Int) < (len2 : Int) := by omega
        have hb2 : 100 ≤ (k : Int) := by omega
        have HRise := Lib.hid hwk.wiA.rise
        have HLen := Lib.hid hwk.wiA.len
        have hfit := hwk.wiA.fits
        have HOn := Lib.hid (show outs (PL now z2 k) now = [] ∧ later (PL now z2 k) now = PL now z2 k from ⟨outs_nil (fun t ht => (hfit t ht).ahead), later_all (fun t ht => (hfit t ht).ahead)⟩)
        have HOe := Lib.hid (show outs (PL now z2 k) en = outs (PL now z2 k) (max now en) ∧ later (PL now z2 k) en = later (PL now z2 k) (max now en) from by
          rcases Int.le_total now en with h | h
          · rw [show max now en = en by omega]; exact ⟨rfl, rfl⟩
          · rw [show max now en = now by omega, HOn.out.1, HOn.out.2]
            exact ⟨outs_nil (fun t ht => by have := (hfit t ht).ahead; omega), later_all (fun t ht => by have := (hfit t ht).ahead; omega)⟩)
        have HWk := Lib.hid hwk
        clear hfit hwk
        obtain ⟨L, hL⟩ : ∃ L : List Tm, L = PL now z2 k := ⟨_, rfl⟩
        rw [← hL] at HRise HLen HOn HOe HWk
        clear hL
        go_wp2_with fail
        go_loopw [16, 17] (fun lv i wr => ∃ (q : Nat) (nb : Int), q ≤ len3 ∧ q ≤ 40 ∧ i = .int .i64 (q : Int) ∧ (now ≤ nb ∧ nb ≤ max now en) ∧ WS w wr w.heap.size (w.heap.size + 1) now nb k k L (later L nb) lv (outs L nb)) (fun _ i _ => 40 - (intOf i).toNat)
        case atStart => exact ⟨0, now, Nat.zero_le _, Nat.zero_le _, rfl, ⟨by omega, by omega⟩, by rw [HOn.out.1, HOn.out.2]; exact HWk.out⟩
        case round =>
          obtain ⟨j, nb, hk, hk40, rfl, hnb, hwr⟩ := hrel
          obtain ⟨lv, hlv⟩ : ∃ lv, lv = u16 := ⟨_, rfl⟩
          rw [← hlv] at hwr ⊢
          clear hlv
          have HNb := Lib.hid hnb
          have HWr := Lib.hid hwr
          by_cases hlt : j < len3
          · by_cases hlt2 : j < 40
            · obtain ⟨b, off, rfl, hc⟩ := HZ3.out.cellBelow hwr.bel hlt
              have HMw := Lib.hid (show Wd (min (z3 j) en) from by
                rcases Int.le_total (z3 j) en with h | h
                · rw [show min (z3 j) en = z3 j by omega]; exact HZ3.out.wd j
                · rw [show min (z3 j) en = en by omega]; exact HEn.out)
              have hb5 : (0 : Int) ≤ (j : Int) := by omega
              have hb3 : (j : Int) < (len3 : Int) := by omega
              have hb4 : (j : Int) < 40 := by omega
              clear hwr hnb
              generalize z3 j = x at *
              go_wp2_with fail
              with_reducible refine (HWr.out.toB HT.out HMw.out).mono ?_
              rintro e w5 ⟨u5, rfl, hr5, hs5⟩
              rw [later_max] at hs5
              have HR5 := Lib.hid hr5
              have HS5 := Lib.hid hs5
              have HO5 := Lib.hid (outs_max HRise.out nb (min x en))
              have HB5 := Lib.hid (Nat.le_trans hs5.bel.size (Nat.le_refl _))
              have HL5 := Lib.hid (show (outs L nb).length ≤ 256 ∧ (outs (later L nb) (min x en)).length ≤ 256 from ⟨by rw [outs_length]; exact Nat.le_trans (upto_length _ _) HLen.out, by rw [outs_length]; exact Nat.le_trans (upto_length _ _) (Nat.le_trans (List.length_filter_le _ _) HLen.out)⟩)
              clear hr5 hs5 hc
              go_frame
              go_wp2_with (first
                | (at_builtin; go_must (refine wpList_append_rows rfl _ _ 37 rfl w.heap.size 3 i0 (.int .i64 0) 1 8 Tryd.underlying37 hI hz0 hz1 hz2 rfl (by decide) lv (outs L nb).length ((outs L nb).map iv) rfl HS5.out.row _ u5 (outs (later L nb) (min x en)).length ((outs (later L nb) (min x en)).map iv) rfl HR5.out (by simp [iv, Value.oneCell']) (by have := HL5.out; unfold maxLen; omega) (by have := HL5.out; omega) HB5.out ?_); intro v6 w6 hown6 hg6 hat6; have hs6 := HS5.out.appended hown6 hg6 hat6; rw [HO5.out] at hs6; have HS6 := Lib.hid hs6; clear hown6 hg6 hat6 hs6)
                | fail)
              go_roundw
              case rel => exact ⟨j + 1, max nb (min x en), by omega, by omega, by go_num, ⟨by have := HNb.out; omega, by have := HNb.out; omega⟩, HS6.out⟩
              case measure => simp [intOf]; omega
            · have hb3 : (j : Int) < (len3 : Int) := by omega
              have hb4 : 40 ≤ (j : Int) := by omega
              clear hwr hnb
              have hbS : max nb en = max now en := by have := HNb.out; omega
              go_wp2_with fail
              with_reducible refine (HWr.out.toB HT.out HEn.out).mono ?_
              rintro e w5 ⟨u5, rfl, hr5, hs5⟩
              rw [later_max, hbS] at hs5
              have HR5 := Lib.hid hr5
              have HS5 := Lib.hid hs5
              have HO5 := Lib.hid (show outs L nb ++ outs (later L nb) en = outs L (max now en) by rw [outs_max HRise.out, hbS])
              have HB5 := Lib.hid (Nat.le_trans hs5.bel.size (Nat.le_refl _))
              have HL5 := Lib.hid (show (outs L nb).length ≤ 256 ∧ (outs (later L nb) en).length ≤ 256 from ⟨by rw [outs_length]; exact Nat.le_trans (upto_length _ _) HLen.out, by rw [outs_length]; exact Nat.le_trans (upto_length _ _) (Nat.le_trans (List.length_filter_le _ _) HLen.out)⟩)
              clear hr5 hs5 hbS
              go_frame
              go_wp2_with (first
                | (at_builtin; go_must (refine wpList_append_rows rfl _ _ 37 rfl w.heap.size 3 i0 (.int .i64 0) 1 8 Tryd.underlying37 hI hz0 hz1 hz2 rfl (by decide) lv (outs L nb).length ((outs L nb).map iv) rfl HS5.out.row _ u5 (outs (later L nb) en).length ((outs (later L nb) en).map iv) rfl HR5.out (by simp [iv, Value.oneCell']) (by have := HL5.out; unfold maxLen; omega) (by have := HL5.out; omega) HB5.out ?_); intro v6 w6 hown6 hg6 hat6; have hs6 := HS5.out.appended hown6 hg6 hat6; rw [HO5.out] at hs6; have HS6 := Lib.hid hs6; clear hown6 hg6 hat6 hs6)
                | fail)
              with_reducible refine (known_any _ (HS6.out.tab HT.out)).mono ?_
              rintro e w7 ⟨rfl, hb7⟩
              have HS7 := Lib.hid (HS6.out.below hb7)
              clear hb7
              go_frame
              go_wp2_with fail
              with_reducible refine (HS7.out.toA HT.out HEn.out).mono ?_
              rintro e w8 ⟨u8, rfl, hr8, hs8⟩
              rw [HOe.out.1] at hr8
              rw [HOe.out.2] at hs8
              obtain ⟨zs, hzs⟩ : ∃ zs, zs = outs L (max now en) := ⟨_, rfl⟩
              rw [← hzs] at hr8 hs8
              have hzl : zs.length ≤ 9223372036854775807 := by
                rw [hzs, outs_length]
                have := HLen.out
                have := upto_length L (max now en)
                omega
              have hrow8 := hs8.row
              obtain ⟨a8, c8, rfl⟩ := own_form hr8
              obtain ⟨a6, c6, rfl⟩ := own_form hrow8
              have HSm := Lib.hid (Mk.same_eq a8 a6 c8 c6 zs w8 hzl (ints_own hr8).1 (ints_own hrow8).1)
              have HS8 := Lib.hid hs8
              clear hr8 hs8 hrow8 hzs hzl
              go_frame
              go_wp2_with fail
              with_reducible refine HSm.out.mono ?_
              rintro e w9 ⟨rfl, m9, rfl⟩
              have HS9 := Lib.hid (HS8.out.quiet ((Ch.refl [] w8).drewN m9))
              go_frame
              go_wp2_with fail
              with_reducible refine HS9.out.nowA.mono ?_
              rintro e w10 ⟨rfl, rfl⟩
              go_frame
              go_wp2_with fail
              with_reducible refine HS9.out.nowB.mono ?_
              rintro e w11 ⟨rfl, rfl⟩
              go_frame
              go_wp2_with fail
              with_reducible refine HS9.out.idsA.mono ?_
              rintro e w12 ⟨u12, rfl, hr12, hb12⟩
              have HS12 := Lib.hid (HS9.out.below hb12)
              have HR12 := Lib.hid hr12
              clear hr12 hb12
              go_frame
              go_wp2_with fail
              with_reducible refine HS12.out.idsB.mono ?_
              rintro e w13 ⟨u13, rfl, hr13, hb13⟩
              have hr12' := own_ch HR12.out (Ch.of_below (S := []) hb13) (by simp)
              obtain ⟨a12, c12, rfl⟩ := own_form hr12'
              obtain ⟨a13, c13, rfl⟩ := own_form hr13
              have hii := (ints_own (zs := idsL (later L (max now en))) hr12').1
              have hjj := (ints_own (zs := idsL (later L (max now en))) hr13).1
              have hsm := Mk.same_eq a12 a13 c12 c13 (idsL (later L (max now en))) w13 (by rw [idsL_len]; have := HLen.out; have : (later L (max now en)).length ≤ L.length := List.length_filter_le _ _; omega) hii hjj
              rw [idsL_len] at hsm
              have HSn := Lib.hid hsm
              have HS13 := Lib.hid (HS12.out.below hb13)
              clear hr12' hr13 hb13 hii hjj hsm
              go_frame
              go_wp2_with fail
              with_reducible refine HSn.out.mono ?_
              rintro e w14 ⟨rfl, m14, rfl⟩
              go_frame
              go_wp2
              go_ret
              exact ⟨rfl, below_drewN HS13.out.bel _⟩
          · obtain rfl : j = len3 := by omega
            clear hwr hnb
            have hbS : max nb en = max now en := by have := HNb.out; omega
            go_wp2_with fail
            with_reducible refine (HWr.out.toB HT.out HEn.out).mono ?_
            rintro e w5 ⟨u5, rfl, hr5, hs5⟩
            rw [later_max, hbS] at hs5
            have HR5 := Lib.hid hr5
            have HS5 := Lib.hid hs5
            have HO5 := Lib.hid (show outs L nb ++ outs (later L nb) en = outs L (max now en) by rw [outs_max HRise.out, hbS])
            have HB5 := Lib.hid (Nat.le_trans hs5.bel.size (Nat.le_refl _))
            have HL5 := Lib.hid (show (outs L nb).length ≤ 256 ∧ (outs (later L nb) en).length ≤ 256 from ⟨by rw [outs_length]; exact Nat.le_trans (upto_length _ _) HLen.out, by rw [outs_length]; exact Nat.le_trans (upto_length _ _) (Nat.le_trans (List.length_filter_le _ _) HLen.out)⟩)
            clear hr5 hs5 hbS
            go_frame
            go_wp2_with (first
              | (at_builtin; go_must (refine wpList_append_rows rfl _ _ 37 rfl w.heap.size 3 i0 (.int .i64 0) 1 8 Tryd.underlying37 hI hz0 hz1 hz2 rfl (by decide) lv (outs L nb).length ((outs L nb).map iv) rfl HS5.out.row _ u5 (outs (later L nb) en).length ((outs (later L nb) en).map iv) rfl HR5.out (by simp [iv, Value.oneCell']) (by have := HL5.out; unfold maxLen; omega) (by have := HL5.out; omega) HB5.out ?_); intro v6 w6 hown6 hg6 hat6; have hs6 := HS5.out.appended hown6 hg6 hat6; rw [HO5.out] at hs6; have HS6 := Lib.hid hs6; clear hown6 hg6 hat6 hs6)
              | fail)
            with_reducible refine (known_any _ (HS6.out.tab HT.out)).mono ?_
            rintro e w7 ⟨rfl, hb7⟩
            have HS7 := Lib.hid (HS6.out.below hb7)
            clear hb7
            go_frame
            go_wp2_with fail
            with_reducible refine (HS7.out.toA HT.out HEn.out).mono ?_
            rintro e w8 ⟨u8, rfl, hr8, hs8⟩
            rw [HOe.out.1] at hr8
            rw [HOe.out.2] at hs8
            obtain ⟨zs, hzs⟩ : ∃ zs, zs = outs L (max now en) := ⟨_, rfl⟩
            rw [← hzs] at hr8 hs8
            have hzl : zs.length ≤ 9223372036854775807 := by
              rw [hzs, outs_length]
              have := HLen.out
              have := upto_length L (max now en)
              omega
            have hrow8 := hs8.row
            obtain ⟨a8, c8, rfl⟩ := own_form hr8
            obtain ⟨a6, c6, rfl⟩ := own_form hrow8
            have HSm := Lib.hid (Mk.same_eq a8 a6 c8 c6 zs w8 hzl (ints_own hr8).1 (ints_own hrow8).1)
            have HS8 := Lib.hid hs8
            clear hr8 hs8 hrow8 hzs hzl
            go_frame
            go_wp2_with fail
            with_reducible refine HSm.out.mono ?_
            rintro e w9 ⟨rfl, m9, rfl⟩
            have HS9 := Lib.hid (HS8.out.quiet ((Ch.refl [] w8).drewN m9))
            go_frame
            go_wp2_with fail
            with_reducible refine HS9.out.nowA.mono ?_
            rintro e w10 ⟨rfl, rfl⟩
            go_frame
            go_wp2_with fail
            with_reducible refine HS9.out.nowB.mono ?_
            rintro e w11 ⟨rfl, rfl⟩
            go_frame
            go_wp2_with fail
            with_reducible refine HS9.out.idsA.mono ?_
            rintro e w12 ⟨u12, rfl, hr12, hb12⟩
            have HS12 := Lib.hid (HS9.out.below hb12)
            have HR12 := Lib.hid hr12
            clear hr12 hb12
            go_frame
            go_wp2_with fail
            with_reducible refine HS12.out.idsB.mono ?_
            rintro e w13 ⟨u13, rfl, hr13, hb13⟩
            have hr12' := own_ch HR12.out (Ch.of_below (S := []) hb13) (by simp)
            obtain ⟨a12, c12, rfl⟩ := own_form hr12'
            obtain ⟨a13, c13, rfl⟩ := own_form hr13
            have hii := (ints_own (zs := idsL (later L (max now en))) hr12').1
            have hjj := (ints_own (zs := idsL (later L (max now en))) hr13).1
            have hsm := Mk.same_eq a12 a13 c12 c13 (idsL (later L (max now en))) w13 (by rw [idsL_len]; have := HLen.out; have : (later L (max now en)).length ≤ L.length := List.length_filter_le _ _; omega) hii hjj
            rw [idsL_len] at hsm
            have HSn := Lib.hid hsm
            have HS13 := Lib.hid (HS12.out.below hb13)
            clear hr12' hr13 hb13 hii hjj hsm
            go_frame
            go_wp2_with fail
            with_reducible refine HSn.out.mono ?_
            rintro e w14 ⟨rfl, m14, rfl⟩
            go_frame
            go_wp2
            go_ret
            exact ⟨rfl, below_drewN HS13.out.bel _⟩
    · obtain rfl : k = len2 := by omega
      have HRise := Lib.hid hwk.wiA.rise
      have HLen := Lib.hid hwk.wiA.len
      have hfit := hwk.wiA.fits
      have HOn := Lib.hid (show outs (PL now z2 k) now = [] ∧ later (PL now z2 k) now = PL now z2 k from ⟨outs_nil (fun t ht => (hfit t ht).ahead), later_all (fun t ht => (hfit t ht).ahead)⟩)
      have HOe := Lib.hid (show outs (PL now z2 k) en = outs (PL now z2 k) (max now en) ∧ later (PL now z2 k) en = later (PL now z2 k) (max now en) from by
        rcases Int.le_total now en with h | h
        · rw [show max now en = en by omega]; exact ⟨rfl, rfl⟩
        · rw [show max now en = now by omega, HOn.out.1, HOn.out.2]
          exact ⟨outs_nil (fun t ht => by have := (hfit t ht).ahead; omega), later_all (fun t ht => by have := (hfit t ht).ahead; omega)⟩)
      have HWk := Lib.hid hwk
      clear hfit hwk
      obtain ⟨L, hL⟩ : ∃ L : List Tm, L = PL now z2 k := ⟨_, rfl⟩
      rw [← hL] at HRise HLen HOn HOe HWk
      clear hL
      go_wp2_with fail
      go_loopw [16, 17] (fun lv i wr => ∃ (q : Nat) (nb : Int), q ≤ len3 ∧ q ≤ 40 ∧ i = .int .i64 (q : Int) ∧ (now ≤ nb ∧ nb ≤ max now en) ∧ WS w wr w.heap.size (w.heap.size + 1) now nb k k L (later L nb) lv (outs L nb)) (fun _ i _ => 40 - (intOf i).toNat)
      case atStart => exact ⟨0, now, Nat.zero_le _, Nat.zero_le _, rfl, ⟨by omega, by omega⟩, by rw [HOn.out.1, HOn.out.2]; exact HWk.out⟩
      case round =>
        obtain ⟨j, nb, hk, hk40, rfl, hnb, hwr⟩ := hrel
        obtain ⟨lv, hlv⟩ : ∃ lv, lv = u16 := ⟨_, rfl⟩
        rw [← hlv] at hwr ⊢
        clear hlv
        have HNb := Lib.hid hnb
        have HWr := Lib.hid hwr
        by_cases hlt : j < len3
        · by_cases hlt2 : j < 40
          · obtain ⟨b, off, rfl, hc⟩ := HZ3.out.cellBelow hwr.bel hlt
            have HMw := Lib.hid (show Wd (min (z3 j) en) from by
              rcases Int.le_total (z3 j) en with h | h
              · rw [show min (z3 j) en = z3 j by omega]; exact HZ3.out.wd j
              · rw [show min (z3 j) en = en by omega]; exact HEn.out)
            have hb5 : (0 : Int) ≤ (j : Int) := by omega
            have hb3 : (j : Int) < (len3 : Int) := by omega
            have hb4 : (j : Int) < 40 := by omega
            clear hwr hnb
            generalize z3 j = x at *
            go_wp2_with fail
            with_reducible refine (HWr.out.toB HT.out HMw.out).mono ?_
            rintro e w5 ⟨u5, rfl, hr5, hs5⟩
            rw [later_max] at hs5
            have HR5 := Lib.hid hr5
            have HS5 := Lib.hid hs5
            have HO5 := Lib.hid (outs_max HRise.out nb (min x en))
            have HB5 := Lib.hid (Nat.le_trans hs5.bel.size (Nat.le_refl _))
            have HL5 := Lib.hid (show (outs L nb).length ≤ 256 ∧ (outs (later L nb) (min x en)).length ≤ 256 from ⟨by rw [outs_length]; exact Nat.le_trans (upto_length _ _) HLen.out, by rw [outs_length]; exact Nat.le_trans (upto_length _ _) (Nat.le_trans (List.length_filter_le _ _) HLen.out)⟩)
            clear hr5 hs5 hc
            go_frame
            go_wp2_with (first
              | (at_builtin; go_must (refine wpList_append_rows rfl _ _ 37 rfl w.heap.size 3 i0 (.int .i64 0) 1 8 Tryd.underlying37 hI hz0 hz1 hz2 rfl (by decide) lv (outs L nb).length ((outs L nb).map iv) rfl HS5.out.row _ u5 (outs (later L nb) (min x en)).length ((outs (later L nb) (min x en)).map iv) rfl HR5.out (by simp [iv, Value.oneCell']) (by have := HL5.out; unfold maxLen; omega) (by have := HL5.out; omega) HB5.out ?_); intro v6 w6 hown6 hg6 hat6; have hs6 := HS5.out.appended hown6 hg6 hat6; rw [HO5.out] at hs6; have HS6 := Lib.hid hs6; clear hown6 hg6 hat6 hs6)
              | fail)
            go_roundw
            case rel => exact ⟨j + 1, max nb (min x en), by omega, by omega, by go_num, ⟨by have := HNb.out; omega, by have := HNb.out; omega⟩, HS6.out⟩
            case measure => simp [intOf]; omega
          · have hb3 : (j : Int) < (len3 : Int) := by omega
            have hb4 : 40 ≤ (j : Int) := by omega
            clear hwr hnb
            have hbS : max nb en = max now en := by have := HNb.out; omega
            go_wp2_with fail
            with_reducible refine (HWr.out.toB HT.out HEn.out).mono ?_
            rintro e w5 ⟨u5, rfl, hr5, hs5⟩
            rw [later_max, hbS] at hs5
            have HR5 := Lib.hid hr5
            have HS5 := Lib.hid hs5
            have HO5 := Lib.hid (show outs L nb ++ outs (later L nb) en = outs L (max now en) by rw [outs_max HRise.out, hbS])
            have HB5 := Lib.hid (Nat.le_trans hs5.bel.size (Nat.le_refl _))
            have HL5 := Lib.hid (show (outs L nb).length ≤ 256 ∧ (outs (later L nb) en).length ≤ 256 from ⟨by rw [outs_length]; exact Nat.le_trans (upto_length _ _) HLen.out, by rw [outs_length]; exact Nat.le_trans (upto_length _ _) (Nat.le_trans (List.length_filter_le _ _) HLen.out)⟩)
            clear hr5 hs5 hbS
            go_frame
            go_wp2_with (first
              | (at_builtin; go_must (refine wpList_append_rows rfl _ _ 37 rfl w.heap.size 3 i0 (.int .i64 0) 1 8 Tryd.underlying37 hI hz0 hz1 hz2 rfl (by decide) lv (outs L nb).length ((outs L nb).map iv) rfl HS5.out.row _ u5 (outs (later L nb) en).length ((outs (later L nb) en).map iv) rfl HR5.out (by simp [iv, Value.oneCell']) (by have := HL5.out; unfold maxLen; omega) (by have := HL5.out; omega) HB5.out ?_); intro v6 w6 hown6 hg6 hat6; have hs6 := HS5.out.appended hown6 hg6 hat6; rw [HO5.out] at hs6; have HS6 := Lib.hid hs6; clear hown6 hg6 hat6 hs6)
              | fail)
            with_reducible refine (known_any _ (HS6.out.tab HT.out)).mono ?_
            rintro e w7 ⟨rfl, hb7⟩
            have HS7 := Lib.hid (HS6.out.below hb7)
            clear hb7
            go_frame
            go_wp2_with fail
            with_reducible refine (HS7.out.toA HT.out HEn.out).mono ?_
            rintro e w8 ⟨u8, rfl, hr8, hs8⟩
            rw [HOe.out.1] at hr8
            rw [HOe.out.2] at hs8
            obtain ⟨zs, hzs⟩ : ∃ zs, zs = outs L (max now en) := ⟨_, rfl⟩
            rw [← hzs] at hr8 hs8
            have hzl : zs.length ≤ 9223372036854775807 := by
              rw [hzs, outs_length]
              have := HLen.out
              have := upto_length L (max now en)
              omega
            have hrow8 := hs8.row
            obtain ⟨a8, c8, rfl⟩ := own_form hr8
            obtain ⟨a6, c6, rfl⟩ := own_form hrow8
            have HSm := Lib.hid (Mk.same_eq a8 a6 c8 c6 zs w8 hzl (ints_own hr8).1 (ints_own hrow8).1)
            have HS8 := Lib.hid hs8
            clear hr8 hs8 hrow8 hzs hzl
            go_frame
            go_wp2_with fail
            with_reducible refine HSm.out.mono ?_
            rintro e w9 ⟨rfl, m9, rfl⟩
            have HS9 := Lib.hid (HS8.out.quiet ((Ch.refl [] w8).drewN m9))
            go_frame
            go_wp2_with fail
            with_reducible refine HS9.out.nowA.mono ?_
            rintro e w10 ⟨rfl, rfl⟩
            go_frame
            go_wp2_with fail
            with_reducible refine HS9.out.nowB.mono ?_
            rintro e w11 ⟨rfl, rfl⟩
            go_frame
            go_wp2_with fail
            with_reducible refine HS9.out.idsA.mono ?_
            rintro e w12 ⟨u12, rfl, hr12, hb12⟩
            have HS12 := Lib.hid (HS9.out.below hb12)
            have HR12 := Lib.hid hr12
            clear hr12 hb12
            go_frame
            go_wp2_with fail
            with_reducible refine HS12.out.idsB.mono ?_
            rintro e w13 ⟨u13, rfl, hr13, hb13⟩
            have hr12' := own_ch HR12.out (Ch.of_below (S := []) hb13) (by simp)
            obtain ⟨a12, c12, rfl⟩ := own_form hr12'
            obtain ⟨a13, c13, rfl⟩ := own_form hr13
            have hii := (ints_own (zs := idsL (later L (max now en))) hr12').1
            have hjj := (ints_own (zs := idsL (later L (max now en))) hr13).1
            have hsm := Mk.same_eq a12 a13 c12 c13 (idsL (later L (max now en))) w13 (by rw [idsL_len]; have := HLen.out; have : (later L (max now en)).length ≤ L.length := List.length_filter_le _ _; omega) hii hjj
            rw [idsL_len] at hsm
            have HSn := Lib.hid hsm
            have HS13 := Lib.hid (HS12.out.below hb13)
            clear hr12' hr13 hb13 hii hjj hsm
            go_frame
            go_wp2_with fail
            with_reducible refine HSn.out.mono ?_
            rintro e w14 ⟨rfl, m14, rfl⟩
            go_frame
            go_wp2
            go_ret
            exact ⟨rfl, below_drewN HS13.out.bel _⟩
        · obtain rfl : j = len3 := by omega
          clear hwr hnb
          have hbS : max nb en = max now en := by have := HNb.out; omega
          go_wp2_with fail
          with_reducible refine (HWr.out.toB HT.out HEn.out).mono ?_
          rintro e w5 ⟨u5, rfl, hr5, hs5⟩
          rw [later_max, hbS] at hs5
          have HR5 := Lib.hid hr5
          have HS5 := Lib.hid hs5
          have HO5 := Lib.hid (show outs L nb ++ outs (later L nb) en = outs L (max now en) by rw [outs_max HRise.out, hbS])
          have HB5 := Lib.hid (Nat.le_trans hs5.bel.size (Nat.le_refl _))
          have HL5 := Lib.hid (show (outs L nb).length ≤ 256 ∧ (outs (later L nb) en).length ≤ 256 from ⟨by rw [outs_length]; exact Nat.le_trans (upto_length _ _) HLen.out, by rw [outs_length]; exact Nat.le_trans (upto_length _ _) (Nat.le_trans (List.length_filter_le _ _) HLen.out)⟩)
          clear hr5 hs5 hbS
          go_frame
          go_wp2_with (first
            | (at_builtin; go_must (refine wpList_append_rows rfl _ _ 37 rfl w.heap.size 3 i0 (.int .i64 0) 1 8 Tryd.underlying37 hI hz0 hz1 hz2 rfl (by decide) lv (outs L nb).length ((outs L nb).map iv) rfl HS5.out.row _ u5 (outs (later L nb) en).length ((outs (later L nb) en).map iv) rfl HR5.out (by simp [iv, Value.oneCell']) (by have := HL5.out; unfold maxLen; omega) (by have := HL5.out; omega) HB5.out ?_); intro v6 w6 hown6 hg6 hat6; have hs6 := HS5.out.appended hown6 hg6 hat6; rw [HO5.out] at hs6; have HS6 := Lib.hid hs6; clear hown6 hg6 hat6 hs6)
            | fail)
          with_reducible refine (known_any _ (HS6.out.tab HT.out)).mono ?_
          rintro e w7 ⟨rfl, hb7⟩
          have HS7 := Lib.hid (HS6.out.below hb7)
          clear hb7
          go_frame
          go_wp2_with fail
          with_reducible refine (HS7.out.toA HT.out HEn.out).mono ?_
          rintro e w8 ⟨u8, rfl, hr8, hs8⟩
          rw [HOe.out.1] at hr8
          rw [HOe.out.2] at hs8
          obtain ⟨zs, hzs⟩ : ∃ zs, zs = outs L (max now en) := ⟨_, rfl⟩
          rw [← hzs] at hr8 hs8
          have hzl : zs.length ≤ 9223372036854775807 := by
            rw [hzs, outs_length]
            have := HLen.out
            have := upto_length L (max now en)
            omega
          have hrow8 := hs8.row
          obtain ⟨a8, c8, rfl⟩ := own_form hr8
          obtain ⟨a6, c6, rfl⟩ := own_form hrow8
          have HSm := Lib.hid (Mk.same_eq a8 a6 c8 c6 zs w8 hzl (ints_own hr8).1 (ints_own hrow8).1)
          have HS8 := Lib.hid hs8
          clear hr8 hs8 hrow8 hzs hzl
          go_frame
          go_wp2_with fail
          with_reducible refine HSm.out.mono ?_
          rintro e w9 ⟨rfl, m9, rfl⟩
          have HS9 := Lib.hid (HS8.out.quiet ((Ch.refl [] w8).drewN m9))
          go_frame
          go_wp2_with fail
          with_reducible refine HS9.out.nowA.mono ?_
          rintro e w10 ⟨rfl, rfl⟩
          go_frame
          go_wp2_with fail
          with_reducible refine HS9.out.nowB.mono ?_
          rintro e w11 ⟨rfl, rfl⟩
          go_frame
          go_wp2_with fail
          with_reducible refine HS9.out.idsA.mono ?_
          rintro e w12 ⟨u12, rfl, hr12, hb12⟩
          have HS12 := Lib.hid (HS9.out.below hb12)
          have HR12 := Lib.hid hr12
          clear hr12 hb12
          go_frame
          go_wp2_with fail
          with_reducible refine HS12.out.idsB.mono ?_
          rintro e w13 ⟨u13, rfl, hr13, hb13⟩
          have hr12' := own_ch HR12.out (Ch.of_below (S := []) hb13) (by simp)
          obtain ⟨a12, c12, rfl⟩ := own_form hr12'
          obtain ⟨a13, c13, rfl⟩ := own_form hr13
          have hii := (ints_own (zs := idsL (later L (max now en))) hr12').1
          have hjj := (ints_own (zs := idsL (later L (max now en))) hr13).1
          have hsm := Mk.same_eq a12 a13 c12 c13 (idsL (later L (max now en))) w13 (by rw [idsL_len]; have := HLen.out; have : (later L (max now en)).length ≤ L.length := List.length_filter_le _ _; omega) hii hjj
          rw [idsL_len] at hsm
          have HSn := Lib.hid hsm
          have HS13 := Lib.hid (HS12.out.below hb13)
          clear hr12' hr13 hb13 hii hjj hsm
          go_frame
          go_wp2_with fail
          with_reducible refine HSn.out.mono ?_
          rintro e w14 ⟨rfl, m14, rfl⟩
          go_frame
          go_wp2
          go_ret
          exact ⟨rfl, below_drewN HS13.out.bel _⟩

set_option maxRecDepth 100000 in
set_option maxHeartbeats 4000000 in
theorem steps_max {now en : Int} (hmx : now = 18446744073709551615) (hn : Wd now) (he : Wd en) (a2 : Option Addr) (len2 cap2 : Nat) (z2 : Nat → Int) (a3 : Option Addr) (len3 cap3 : Nat) (z3 : Nat → Int) (w : World) (hT : Mk.Tab w) (hlc2 : len2 ≤ cap2) (hcm2 : cap2 ≤ 9223372036854775807) (hzz2 : WordsAt w a2 len2 z2) (hlc3 : len3 ≤ cap3) (hcm3 : cap3 ≤ 9223372036854775807) (hzz3 : WordsAt w a3 len3 z3) :
    Calls Tryd.prog 4 #[.int .u64 now, .int .u64 en, .slice a2 len2 cap2, .slice a3 len3 cap3] w fun e w' => e = .returned (.bool true) ∧ Below w.heap.size w w' := by
  have HT := Lib.hid hT
  have HNow := Lib.hid hn
  have HMx := Lib.hid hmx
  have HEn := Lib.hid he
  have HZ2 := Lib.hid hzz2
  have HZ3 := Lib.hid hzz3
  have hlm2 : (len2 : Int) ≤ 9223372036854775807 := by omega
  have hlm3 : (len3 : Int) ≤ 9223372036854775807 := by omega
  obtain ⟨i0, hI, hz0, hz1, hz2⟩ := info_parts infoI
  clear hT hn hmx he hlc2 hcm2 hzz2 hlc3 hcm3 hzz3
  go_enter Tryd.func4, Tryd.ntmps4
  go_wp2_with fail
  with_reducible refine (new_any HNow.out w (base := w.heap.size) (Nat.le_refl _) _ rfl).mono ?_
  rintro e w1 ⟨rfl, hw1, hc1, hs1⟩
  have HN2 := Lib.hid (WS.new2 HNow.out w w1 hw1 hc1 hs1)
  clear hw1 hc1 hs1
  go_frame
  go_wp2_with fail
  with_reducible refine HN2.out.mono ?_
  rintro e w2 ⟨rfl, hs2⟩
  have HS2 := Lib.hid hs2
  clear hs2
  go_frame
  go_wp2_with fail
  go_loopw [11] (fun i wr => ∃ k : Nat, k ≤ len2 ∧ k ≤ 100 ∧ i = .int .i64 (k : Int) ∧ WS w wr w.heap.size (w.heap.size + 1) now now 0 0 [] [] (.slice none 0 0) []) (fun i _ => 100 - (intOf i).toNat)
  case atStart => exact ⟨0, Nat.zero_le _, Nat.zero_le _, rfl, HS2.out⟩
  case round =>
    obtain ⟨k, hk, hk100, rfl, hwk⟩ := hrel
    by_cases hlt : k < len2
    · by_cases hlt2 : k < 100
      · obtain ⟨b, off, rfl, hc⟩ := HZ2.out.cellBelow hwk.bel hlt
        have HZc := Lib.hid (fun W (hb : Below w.heap.size w W) => HZ2.out.cellBelow hb hlt)
        have hb0 : (0 : Int) ≤ (k : Int) := by omega
        have hb1 : (k : Int) < (len2 : Int) := by omega
        have hb2 : (k : Int) < 100 := by omega
        have HWk := Lib.hid hwk
        obtain ⟨x, hx⟩ : ∃ x, x = z2 k := ⟨_, rfl⟩
        rw [← hx] at hc HZc
        clear hwk hx
        go_wp2_with fail
        with_reducible refine (HWk.out.fullA HMx.out (id := (k : Int)) (by omega) (by omega) (by simp) x).mono ?_
        rintro e w3 ⟨rfl, hk3, hch3⟩
        have hal := hk3.quiet ((Ch.refl [] w3).alloc (.cells #[.int .i64 0, .int .i64 0, .int .u64 0, .int .u64 0] 27))
        obtain ⟨b', off', he', hc'⟩ := HZc.out _ hal.bel
        cases he'
        have HF3 := Lib.hid (Four.new w3 (.int .i64 0) (.int .i64 0) (.int .u64 0) (.int .u64 0) 27)
        have HK3 := Lib.hid hal
        clear hk3 hal hc hch3
        unfold spz
        go_frame
        go_wp2_with fail
        with_reducible refine (HK3.out.fullB HMx.out (id := (k : Int)) (by omega) (by omega) (by simp) x).mono ?_
        rintro e w4 ⟨rfl, hk4, hch4⟩
        have hF4 := HF3.out.ch hch4 (by simp)
        obtain ⟨X3, hX3⟩ : ∃ X3, X3 = w3.heap.size := ⟨_, rfl⟩
        rw [← hX3] at hF4 ⊢
        have hal4 := (Ch.refl [] w4).alloc (.cells #[.int .i64 0, .int .i64 0, .int .u64 0, .int .u64 0] 27)
        have HK4 := Lib.hid (hk4.quiet hal4)
        obtain ⟨c0, c1, c2, c3⟩ := hF4.ch hal4 (by simp)
        obtain ⟨d0, d1, d2, d3⟩ := Four.new w4 (.int .i64 0) (.int .i64 0) (.int .u64 0) (.int .u64 0) 27
        clear hk4 hch4 hF4 hal4 hc' hX3
        unfold spz
        go_frame
        go_wp2_with fail
        refine ⟨⟨k + 1, by omega, by omega, by go_num, HK4.out⟩, by simp [intOf]; omega⟩
      · have hb1 : (k : Int) < (len2 : Int) := by omega
        have hb2 : 100 ≤ (k : Int) := by omega
        have HRise := Lib.hid hwk.wiA.rise
        have HLen := Lib.hid hwk.wiA.len
        have hfit := hwk.wiA.fits
        have HOn := Lib.hid (show outs ([]) now = [] ∧ later ([]) now = [] from ⟨outs_nil (fun t ht => (hfit t ht).ahead), later_all (fun t ht => (hfit t ht).ahead)⟩)
        have HOe := Lib.hid (show outs ([]) en = outs ([]) (max now en) ∧ later ([]) en = later ([]) (max now en) from by
          rcases Int.le_total now en with h | h
          · rw [show max now en = en by omega]; exact ⟨rfl, rfl⟩
          · rw [show max now en = now by omega, HOn.out.1, HOn.out.2]
            exact ⟨outs_nil (fun t ht => by have := (hfit t ht).ahead; omega), later_all (fun t ht => by have := (hfit t ht).ahead; omega)⟩)
        have HWk := Lib.hid hwk
        clear hfit hwk
        obtain ⟨L, hL⟩ : ∃ L : List Tm, L = [] := ⟨_, rfl⟩
        rw [← hL] at HRise HLen HOn HOe HWk
        clear hL
        go_wp2_with fail
        go_loopw [16, 17] (fun lv i wr => ∃ (q : Nat) (nb : Int), q ≤ len3 ∧ q ≤ 40 ∧ i = .int .i64 (q : Int) ∧ (now ≤ nb ∧ nb ≤ max now en) ∧ WS w wr w.heap.size (w.heap.size + 1) now nb 0 0 L (later L nb) lv (outs L nb)) (fun _ i _ => 40 - (intOf i).toNat)
        case atStart => exact ⟨0, now, Nat.zero_le _, Nat.zero_le _, rfl, ⟨by omega, by omega⟩, by rw [HOn.out.1, HOn.out.2]; exact HWk.out⟩
        case round =>
          obtain ⟨j, nb, hk, hk40, rfl, hnb, hwr⟩ := hrel
          obtain ⟨lv, hlv⟩ : ∃ lv, lv = u16 := ⟨_, rfl⟩
          rw [← hlv] at hwr ⊢
          clear hlv
          have HNb := Lib.hid hnb
          have HWr := Lib.hid hwr
          by_cases hlt : j < len3
          · by_cases hlt2 : j < 40
            · obtain ⟨b, off, rfl, hc⟩ := HZ3.out.cellBelow hwr.bel hlt
              have HMw := Lib.hid (show Wd (min (z3 j) en) from by
                rcases Int.le_total (z3 j) en with h | h
                · rw [show min (z3 j) en = z3 j by omega]; exact HZ3.out.wd j
                · rw [show min (z3 j) en = en by omega]; exact HEn.out)
              have hb5 : (0 : Int) ≤ (j : Int) := by omega
              have hb3 : (j : Int) < (len3 : Int) := by omega
              have hb4 : (j : Int) < 40 := by omega
              clear hwr hnb
              generalize z3 j = x at *
              go_wp2_with fail
              with_reducible refine (HWr.out.toB HT.out HMw.out).mono ?_
              rintro e w5 ⟨u5, rfl, hr5, hs5⟩
              rw [later_max] at hs5
              have HR5 := Lib.hid hr5
              have HS5 := Lib.hid hs5
              have HO5 := Lib.hid (outs_max HRise.out nb (min x en))
              have HB5 := Lib.hid (Nat.le_trans hs5.bel.size (Nat.le_refl _))
              have HL5 := Lib.hid (show (outs L nb).length ≤ 256 ∧ (outs (later L nb) (min x en)).length ≤ 256 from ⟨by rw [outs_length]; exact Nat.le_trans (upto_length _ _) HLen.out, by rw [outs_length]; exact Nat.le_trans (upto_length _ _) (Nat.le_trans (List.length_filter_le _ _) HLen.out)⟩)
              clear hr5 hs5 hc
              go_frame
              go_wp2_with (first
                | (at_builtin; go_must (refine wpList_append_rows rfl _ _ 37 rfl w.heap.size 3 i0 (.int .i64 0) 1 8 Tryd.underlying37 hI hz0 hz1 hz2 rfl (by decide) lv (outs L nb).length ((outs L nb).map iv) rfl HS5.out.row _ u5 (outs (later L nb) (min x en)).length ((outs (later L nb) (min x en)).map iv) rfl HR5.out (by simp [iv, Value.oneCell']) (by have := HL5.out; unfold maxLen; omega) (by have := HL5.out; omega) HB5.out ?_); intro v6 w6 hown6 hg6 hat6; have hs6 := HS5.out.appended hown6 hg6 hat6; rw [HO5.out] at hs6; have HS6 := Lib.hid hs6; clear hown6 hg6 hat6 hs6)
                | fail)
              go_roundw
              case rel => exact ⟨j + 1, max nb (min x en), by omega, by omega, by go_num, ⟨by have := HNb.out; omega, by have := HNb.out; omega⟩, HS6.out⟩
              case measure => simp [intOf]; omega
            · have hb3 : (j : Int) < (len3 : Int) := by omega
              have hb4 : 40 ≤ (j : Int) := by omega
              clear hwr hnb
              have hbS : max nb en = max now en := by have := HNb.out; omega
              go_wp2_with fail
              with_reducible refine (HWr.out.toB HT.out HEn.out).mono ?_
              rintro e w5 ⟨u5, rfl, hr5, hs5⟩
              rw [later_max, hbS] at hs5
              have HR5 := Lib.hid hr5
              have HS5 := Lib.hid hs5
              have HO5 := Lib.hid (show outs L nb ++ outs (later L nb) en = outs L (max now en) by rw [outs_max HRise.out, hbS])
              have HB5 := Lib.hid (Nat.le_trans hs5.bel.size (Nat.le_refl _))
              have HL5 := Lib.hid (show (outs L nb).length ≤ 256 ∧ (outs (later L nb) en).length ≤ 256 from ⟨by rw [outs_length]; exact Nat.le_trans (upto_length _ _) HLen.out, by rw [outs_length]; exact Nat.le_trans (upto_length _ _) (Nat.le_trans (List.length_filter_le _ _) HLen.out)⟩)
              clear hr5 hs5 hbS
              go_frame
              go_wp2_with (first
                | (at_builtin; go_must (refine wpList_append_rows rfl _ _ 37 rfl w.heap.size 3 i0 (.int .i64 0) 1 8 Tryd.underlying37 hI hz0 hz1 hz2 rfl (by decide) lv (outs L nb).length ((outs L nb).map iv) rfl HS5.out.row _ u5 (outs (later L nb) en).length ((outs (later L nb) en).map iv) rfl HR5.out (by simp [iv, Value.oneCell']) (by have := HL5.out; unfold maxLen; omega) (by have := HL5.out; omega) HB5.out ?_); intro v6 w6 hown6 hg6 hat6; have hs6 := HS5.out.appended hown6 hg6 hat6; rw [HO5.out] at hs6; have HS6 := Lib.hid hs6; clear hown6 hg6 hat6 hs6)
                | fail)
              with_reducible refine (known_any _ (HS6.out.tab HT.out)).mono ?_
              rintro e w7 ⟨rfl, hb7⟩
              have HS7 := Lib.hid (HS6.out.below hb7)
              clear hb7
              go_frame
              go_wp2_with fail
              with_reducible refine (HS7.out.toA HT.out HEn.out).mono ?_
              rintro e w8 ⟨u8, rfl, hr8, hs8⟩
              rw [HOe.out.1] at hr8
              rw [HOe.out.2] at hs8
              obtain ⟨zs, hzs⟩ : ∃ zs, zs = outs L (max now en) := ⟨_, rfl⟩
              rw [← hzs] at hr8 hs8
              have hzl : zs.length ≤ 9223372036854775807 := by
                rw [hzs, outs_length]
                have := HLen.out
                have := upto_length L (max now en)
                omega
              have hrow8 := hs8.row
              obtain ⟨a8, c8, rfl⟩ := own_form hr8
              obtain ⟨a6, c6, rfl⟩ := own_form hrow8
              have HSm := Lib.hid (Mk.same_eq a8 a6 c8 c6 zs w8 hzl (ints_own hr8).1 (ints_own hrow8).1)
              have HS8 := Lib.hid hs8
              clear hr8 hs8 hrow8 hzs hzl
              go_frame
              go_wp2_with fail
              with_reducible refine HSm.out.mono ?_
              rintro e w9 ⟨rfl, m9, rfl⟩
              have HS9 := Lib.hid (HS8.out.quiet ((Ch.refl [] w8).drewN m9))
              go_frame
              go_wp2_with fail
              with_reducible refine HS9.out.nowA.mono ?_
              rintro e w10 ⟨rfl, rfl⟩
              go_frame
              go_wp2_with fail
              with_reducible refine HS9.out.nowB.mono ?_
              rintro e w11 ⟨rfl, rfl⟩
              go_frame
              go_wp2_with fail
              with_reducible refine HS9.out.idsA.mono ?_
              rintro e w12 ⟨u12, rfl, hr12, hb12⟩
              have HS12 := Lib.hid (HS9.out.below hb12)
              have HR12 := Lib.hid hr12
              clear hr12 hb12
              go_frame
              go_wp2_with fail
              with_reducible refine HS12.out.idsB.mono ?_
              rintro e w13 ⟨u13, rfl, hr13, hb13⟩
              have hr12' := own_ch HR12.out (Ch.of_below (S := []) hb13) (by simp)
              obtain ⟨a12, c12, rfl⟩ := own_form hr12'
              obtain ⟨a13, c13, rfl⟩ := own_form hr13
              have hii := (ints_own (zs := idsL (later L (max now en))) hr12').1
              have hjj := (ints_own (zs := idsL (later L (max now en))) hr13).1
              have hsm := Mk.same_eq a12 a13 c12 c13 (idsL (later L (max now en))) w13 (by rw [idsL_len]; have := HLen.out; have : (later L (max now en)).length ≤ L.length := List.length_filter_le _ _; omega) hii hjj
              rw [idsL_len] at hsm
              have HSn := Lib.hid hsm
              have HS13 := Lib.hid (HS12.out.below hb13)
              clear hr12' hr13 hb13 hii hjj hsm
              go_frame
              go_wp2_with fail
              with_reducible refine HSn.out.mono ?_
              rintro e w14 ⟨rfl, m14, rfl⟩
              go_frame
              go_wp2
              go_ret
              exact ⟨rfl, below_drewN HS13.out.bel _⟩
          · obtain rfl : j = len3 := by omega
            clear hwr hnb
            have hbS : max nb en = max now en := by have := HNb.out; omega
            go_wp2_with fail
            with_reducible refine (HWr.out.toB HT.out HEn.out).mono ?_
            rintro e w5 ⟨u5, rfl, hr5, hs5⟩
            rw [later_max, hbS] at hs5
            have HR5 := Lib.hid hr5
            have HS5 := Lib.hid hs5
            have HO5 := Lib.hid (show outs L nb ++ outs (later L nb) en = outs L (max now en) by rw [outs_max HRise.out, hbS])
            have HB5 := Lib.hid (Nat.le_trans hs5.bel.size (Nat.le_refl _))
            have HL5 := Lib.hid (show (outs L nb).length ≤ 256 ∧ (outs (later L nb) en).length ≤ 256 from ⟨by rw [outs_length]; exact Nat.le_trans (upto_length _ _) HLen.out, by rw [outs_length]; exact Nat.le_trans (upto_length _ _) (Nat.le_trans (List.length_filter_le _ _) HLen.out)⟩)
            clear hr5 hs5 hbS
            go_frame
            go_wp2_with (first
              | (at_builtin; go_must (refine wpList_append_rows rfl _ _ 37 rfl w.heap.size 3 i0 (.int .i64 0) 1 8 Tryd.underlying37 hI hz0 hz1 hz2 rfl (by decide) lv (outs L nb).length ((outs L nb).map iv) rfl HS5.out.row _ u5 (outs (later L nb) en).length ((outs (later L nb) en).map iv) rfl HR5.out (by simp [iv, Value.oneCell']) (by have := HL5.out; unfold maxLen; omega) (by have := HL5.out; omega) HB5.out ?_); intro v6 w6 hown6 hg6 hat6; have hs6 := HS5.out.appended hown6 hg6 hat6; rw [HO5.out] at hs6; have HS6 := Lib.hid hs6; clear hown6 hg6 hat6 hs6)
              | fail)
            with_reducible refine (known_any _ (HS6.out.tab HT.out)).mono ?_
            rintro e w7 ⟨rfl, hb7⟩
            have HS7 := Lib.hid (HS6.out.below hb7)
            clear hb7
            go_frame
            go_wp2_with fail
            with_reducible refine (HS7.out.toA HT.out HEn.out).mono ?_
            rintro e w8 ⟨u8, rfl, hr8, hs8⟩
            rw [HOe.out.1] at hr8
            rw [HOe.out.2] at hs8
            obtain ⟨zs, hzs⟩ : ∃ zs, zs = outs L (max now en) := ⟨_, rfl⟩
            rw [← hzs] at hr8 hs8
            have hzl : zs.length ≤ 9223372036854775807 := by
              rw [hzs, outs_length]
              have := HLen.out
              have := upto_length L (max now en)
              omega
            have hrow8 := hs8.row
            obtain ⟨a8, c8, rfl⟩ := own_form hr8
            obtain ⟨a6, c6, rfl⟩ := own_form hrow8
            have HSm := Lib.hid (Mk.same_eq a8 a6 c8 c6 zs w8 hzl (ints_own hr8).1 (ints_own hrow8).1)
            have HS8 := Lib.hid hs8
            clear hr8 hs8 hrow8 hzs hzl
            go_frame
            go_wp2_with fail
            with_reducible refine HSm.out.mono ?_
            rintro e w9 ⟨rfl, m9, rfl⟩
            have HS9 := Lib.hid (HS8.out.quiet ((Ch.refl [] w8).drewN m9))
            go_frame
            go_wp2_with fail
            with_reducible refine HS9.out.nowA.mono ?_
            rintro e w10 ⟨rfl, rfl⟩
            go_frame
            go_wp2_with fail
            with_reducible refine HS9.out.nowB.mono ?_
            rintro e w11 ⟨rfl, rfl⟩
            go_frame
            go_wp2_with fail
            with_reducible refine HS9.out.idsA.mono ?_
            rintro e w12 ⟨u12, rfl, hr12, hb12⟩
            have HS12 := Lib.hid (HS9.out.below hb12)
            have HR12 := Lib.hid hr12
            clear hr12 hb12
            go_frame
            go_wp2_with fail
            with_reducible refine HS12.out.idsB.mono ?_
            rintro e w13 ⟨u13, rfl, hr13, hb13⟩
            have hr12' := own_ch HR12.out (Ch.of_below (S := []) hb13) (by simp)
            obtain ⟨a12, c12, rfl⟩ := own_form hr12'
            obtain ⟨a13, c13, rfl⟩ := own_form hr13
            have hii := (ints_own (zs := idsL (later L (max now en))) hr12').1
            have hjj := (ints_own (zs := idsL (later L (max now en))) hr13).1
            have hsm := Mk.same_eq a12 a13 c12 c13 (idsL (later L (max now en))) w13 (by rw [idsL_len]; have := HLen.out; have : (later L (max now en)).length ≤ L.length := List.length_filter_le _ _; omega) hii hjj
            rw [idsL_len] at hsm
            have HSn := Lib.hid hsm
            have HS13 := Lib.hid (HS12.out.below hb13)
            clear hr12' hr13 hb13 hii hjj hsm
            go_frame
            go_wp2_with fail
            with_reducible refine HSn.out.mono ?_
            rintro e w14 ⟨rfl, m14, rfl⟩
            go_frame
            go_wp2
            go_ret
            exact ⟨rfl, below_drewN HS13.out.bel _⟩
    · obtain rfl : k = len2 := by omega
      have HRise := Lib.hid hwk.wiA.rise
      have HLen := Lib.hid hwk.wiA.len
      have hfit := hwk.wiA.fits
      have HOn := Lib.hid (show outs ([]) now = [] ∧ later ([]) now = [] from ⟨outs_nil (fun t ht => (hfit t ht).ahead), later_all (fun t ht => (hfit t ht).ahead)⟩)
      have HOe := Lib.hid (show outs ([]) en = outs ([]) (max now en) ∧ later ([]) en = later ([]) (max now en) from by
        rcases Int.le_total now en with h | h
        · rw [show max now en = en by omega]; exact ⟨rfl, rfl⟩
        · rw [show max now en = now by omega, HOn.out.1, HOn.out.2]
          exact ⟨outs_nil (fun t ht => by have := (hfit t ht).ahead; omega), later_all (fun t ht => by have := (hfit t ht).ahead; omega)⟩)
      have HWk := Lib.hid hwk
      clear hfit hwk
      obtain ⟨L, hL⟩ : ∃ L : List Tm, L = [] := ⟨_, rfl⟩
      rw [← hL] at HRise HLen HOn HOe HWk
      clear hL
      go_wp2_with fail
      go_loopw [16, 17] (fun lv i wr => ∃ (q : Nat) (nb : Int), q ≤ len3 ∧ q ≤ 40 ∧ i = .int .i64 (q : Int) ∧ (now ≤ nb ∧ nb ≤ max now en) ∧ WS w wr w.heap.size (w.heap.size + 1) now nb 0 0 L (later L nb) lv (outs L nb)) (fun _ i _ => 40 - (intOf i).toNat)
      case atStart => exact ⟨0, now, Nat.zero_le _, Nat.zero_le _, rfl, ⟨by omega, by omega⟩, by rw [HOn.out.1, HOn.out.2]; exact HWk.out⟩
      case round =>
        obtain ⟨j, nb, hk, hk40, rfl, hnb, hwr⟩ := hrel
        obtain ⟨lv, hlv⟩ : ∃ lv, lv = u16 := ⟨_, rfl⟩
        rw [← hlv] at hwr ⊢
        clear hlv
        have HNb := Lib.hid hnb
        have HWr := Lib.hid hwr
        by_cases hlt : j < len3
        · by_cases hlt2 : j < 40
          · obtain ⟨b, off, rfl, hc⟩ := HZ3.out.cellBelow hwr.bel hlt
            have HMw := Lib.hid (show Wd (min (z3 j) en) from by
              rcases Int.le_total (z3 j) en with h | h
              · rw [show min (z3 j) en = z3 j by omega]; exact HZ3.out.wd j
              · rw [show min (z3 j) en = en by omega]; exact HEn.out)
            have hb5 : (0 : Int) ≤ (j : Int) := by omega
            have hb3 : (j : Int) < (len3 : Int) := by omega
            have hb4 : (j : Int) < 40 := by omega
            clear hwr hnb
            generalize z3 j = x at *
            go_wp2_with fail
            with_reducible refine (HWr.out.toB HT.out HMw.out).mono ?_
            rintro e w5 ⟨u5, rfl, hr5, hs5⟩
            rw [later_max] at hs5
            have HR5 := Lib.hid hr5
            have HS5 := Lib.hid hs5
            have HO5 := Lib.hid (outs_max HRise.out nb (min x en))
            have HB5 := Lib.hid (Nat.le_trans hs5.bel.size (Nat.le_refl _))
            have HL5 := Lib.hid (show (outs L nb).length ≤ 256 ∧ (outs (later L nb) (min x en)).length ≤ 256 from ⟨by rw [outs_length]; exact Nat.le_trans (upto_length _ _) HLen.out, by rw [outs_length]; exact Nat.le_trans (upto_length _ _) (Nat.le_trans (List.length_filter_le _ _) HLen.out)⟩)
            clear hr5 hs5 hc
            go_frame
            go_wp2_with (first
              | (at_builtin; go_must (refine wpList_append_rows rfl _ _ 37 rfl w.heap.size 3 i0 (.int .i64 0) 1 8 Tryd.underlying37 hI hz0 hz1 hz2 rfl (by decide) lv (outs L nb).length ((outs L nb).map iv) rfl HS5.out.row _ u5 (outs (later L nb) (min x en)).length ((outs (later L nb) (min x en)).map iv) rfl HR5.out (by simp [iv, Value.oneCell']) (by have := HL5.out; unfold maxLen; omega) (by have := HL5.out; omega) HB5.out ?_); intro v6 w6 hown6 hg6 hat6; have hs6 := HS5.out.appended hown6 hg6 hat6; rw [HO5.out] at hs6; have HS6 := Lib.hid hs6; clear hown6 hg6 hat6 hs6)
              | fail)
            go_roundw
            case rel => exact ⟨j + 1, max nb (min x en), by omega, by omega, by go_num, ⟨by have := HNb.out; omega, by have := HNb.out; omega⟩, HS6.out⟩
            case measure => simp [intOf]; omega
          · have hb3 : (j : Int) < (len3 : Int) := by omega
            have hb4 : 40 ≤ (j : Int) := by omega
            clear hwr hnb
            have hbS : max nb en = max now en := by have := HNb.out; omega
            go_wp2_with fail
            with_reducible refine (HWr.out.toB HT.out HEn.out).mono ?_
            rintro e w5 ⟨u5, rfl, hr5, hs5⟩
            rw [later_max, hbS] at hs5
            have HR5 := Lib.hid hr5
            have HS5 := Lib.hid hs5
            have HO5 := Lib.hid (show outs L nb ++ outs (later L nb) en = outs L (max now en) by rw [outs_max HRise.out, hbS])
            have HB5 := Lib.hid (Nat.le_trans hs5.bel.size (Nat.le_refl _))
            have HL5 := Lib.hid (show (outs L nb).length ≤ 256 ∧ (outs (later L nb) en).length ≤ 256 from ⟨by rw [outs_length]; exact Nat.le_trans (upto_length _ _) HLen.out, by rw [outs_length]; exact Nat.le_trans (upto_length _ _) (Nat.le_trans (List.length_filter_le _ _) HLen.out)⟩)
            clear hr5 hs5 hbS
            go_frame
            go_wp2_with (first
              | (at_builtin; go_must (refine wpList_append_rows rfl _ _ 37 rfl w.heap.size 3 i0 (.int .i64 0) 1 8 Tryd.underlying37 hI hz0 hz1 hz2 rfl (by decide) lv (outs L nb).length ((outs L nb).map iv) rfl HS5.out.row _ u5 (outs (later L nb) en).length ((outs (later L nb) en).map iv) rfl HR5.out (by simp [iv, Value.oneCell']) (by have := HL5.out; unfold maxLen; omega) (by have := HL5.out; omega) HB5.out ?_); intro v6 w6 hown6 hg6 hat6; have hs6 := HS5.out.appended hown6 hg6 hat6; rw [HO5.out] at hs6; have HS6 := Lib.hid hs6; clear hown6 hg6 hat6 hs6)
              | fail)
            with_reducible refine (known_any _ (HS6.out.tab HT.out)).mono ?_
            rintro e w7 ⟨rfl, hb7⟩
            have HS7 := Lib.hid (HS6.out.below hb7)
            clear hb7
            go_frame
            go_wp2_with fail
            with_reducible refine (HS7.out.toA HT.out HEn.out).mono ?_
            rintro e w8 ⟨u8, rfl, hr8, hs8⟩
            rw [HOe.out.1] at hr8
            rw [HOe.out.2] at hs8
            obtain ⟨zs, hzs⟩ : ∃ zs, zs = outs L (max now en) := ⟨_, rfl⟩
            rw [← hzs] at hr8 hs8
            have hzl : zs.length ≤ 9223372036854775807 := by
              rw [hzs, outs_length]
              have := HLen.out
              have := upto_length L (max now en)
              omega
            have hrow8 := hs8.row
            obtain ⟨a8, c8, rfl⟩ := own_form hr8
            obtain ⟨a6, c6, rfl⟩ := own_form hrow8
            have HSm := Lib.hid (Mk.same_eq a8 a6 c8 c6 zs w8 hzl (ints_own hr8).1 (ints_own hrow8).1)
            have HS8 := Lib.hid hs8
            clear hr8 hs8 hrow8 hzs hzl
            go_frame
            go_wp2_with fail
            with_reducible refine HSm.out.mono ?_
            rintro e w9 ⟨rfl, m9, rfl⟩
            have HS9 := Lib.hid (HS8.out.quiet ((Ch.refl [] w8).drewN m9))
            go_frame
            go_wp2_with fail
            with_reducible refine HS9.out.nowA.mono ?_
            rintro e w10 ⟨rfl, rfl⟩
            go_frame
            go_wp2_with fail
            with_reducible refine HS9.out.nowB.mono ?_
            rintro e w11 ⟨rfl, rfl⟩
            go_frame
            go_wp2_with fail
            with_reducible refine HS9.out.idsA.mono ?_
            rintro e w12 ⟨u12, rfl, hr12, hb12⟩
            have HS12 := Lib.hid (HS9.out.below hb12)
            have HR12 := Lib.hid hr12
            clear hr12 hb12
            go_frame
            go_wp2_with fail
            with_reducible refine HS12.out.idsB.mono ?_
            rintro e w13 ⟨u13, rfl, hr13, hb13⟩
            have hr12' := own_ch HR12.out (Ch.of_below (S := []) hb13) (by simp)
            obtain ⟨a12, c12, rfl⟩ := own_form hr12'
            obtain ⟨a13, c13, rfl⟩ := own_form hr13
            have hii := (ints_own (zs := idsL (later L (max now en))) hr12').1
            have hjj := (ints_own (zs := idsL (later L (max now en))) hr13).1
            have hsm := Mk.same_eq a12 a13 c12 c13 (idsL (later L (max now en))) w13 (by rw [idsL_len]; have := HLen.out; have : (later L (max now en)).length ≤ L.length := List.length_filter_le _ _; omega) hii hjj
            rw [idsL_len] at hsm
            have HSn := Lib.hid hsm
            have HS13 := Lib.hid (HS12.out.below hb13)
            clear hr12' hr13 hb13 hii hjj hsm
            go_frame
            go_wp2_with fail
            with_reducible refine HSn.out.mono ?_
            rintro e w14 ⟨rfl, m14, rfl⟩
            go_frame
            go_wp2
            go_ret
            exact ⟨rfl, below_drewN HS13.out.bel _⟩
        · obtain rfl : j = len3 := by omega
          clear hwr hnb
          have hbS : max nb en = max now en := by have := HNb.out; omega
          go_wp2_with fail
          with_reducible refine (HWr.out.toB HT.out HEn.out).mono ?_
          rintro e w5 ⟨u5, rfl, hr5, hs5⟩
          rw [later_max, hbS] at hs5
          have HR5 := Lib.hid hr5
          have HS5 := Lib.hid hs5
          have HO5 := Lib.hid (show outs L nb ++ outs (later L nb) en = outs L (max now en) by rw [outs_max HRise.out, hbS])
          have HB5 := Lib.hid (Nat.le_trans hs5.bel.size (Nat.le_refl _))
          have HL5 := Lib.hid (show (outs L nb).length ≤ 256 ∧ (outs (later L nb) en).length ≤ 256 from ⟨by rw [outs_length]; exact Nat.le_trans (upto_length _ _) HLen.out, by rw [outs_length]; exact Nat.le_trans (upto_length _ _) (Nat.le_trans (List.length_filter_le _ _) HLen.out)⟩)
          clear hr5 hs5 hbS
          go_frame
          go_wp2_with (first
            | (at_builtin; go_must (refine wpList_append_rows rfl _ _ 37 rfl w.heap.size 3 i0 (.int .i64 0) 1 8 Tryd.underlying37 hI hz0 hz1 hz2 rfl (by decide) lv (outs L nb).length ((outs L nb).map iv) rfl HS5.out.row _ u5 (outs (later L nb) en).length ((outs (later L nb) en).map iv) rfl HR5.out (by simp [iv, Value.oneCell']) (by have := HL5.out; unfold maxLen; omega) (by have := HL5.out; omega) HB5.out ?_); intro v6 w6 hown6 hg6 hat6; have hs6 := HS5.out.appended hown6 hg6 hat6; rw [HO5.out] at hs6; have HS6 := Lib.hid hs6; clear hown6 hg6 hat6 hs6)
            | fail)
          with_reducible refine (known_any _ (HS6.out.tab HT.out)).mono ?_
          rintro e w7 ⟨rfl, hb7⟩
          have HS7 := Lib.hid (HS6.out.below hb7)
          clear hb7
          go_frame
          go_wp2_with fail
          with_reducible refine (HS7.out.toA HT.out HEn.out).mono ?_
          rintro e w8 ⟨u8, rfl, hr8, hs8⟩
          rw [HOe.out.1] at hr8
          rw [HOe.out.2] at hs8
          obtain ⟨zs, hzs⟩ : ∃ zs, zs = outs L (max now en) := ⟨_, rfl⟩
          rw [← hzs] at hr8 hs8
          have hzl : zs.length ≤ 9223372036854775807 := by
            rw [hzs, outs_length]
            have := HLen.out
            have := upto_length L (max now en)
            omega
          have hrow8 := hs8.row
          obtain ⟨a8, c8, rfl⟩ := own_form hr8
          obtain ⟨a6, c6, rfl⟩ := own_form hrow8
          have HSm := Lib.hid (Mk.same_eq a8 a6 c8 c6 zs w8 hzl (ints_own hr8).1 (ints_own hrow8).1)
          have HS8 := Lib.hid hs8
          clear hr8 hs8 hrow8 hzs hzl
          go_frame
          go_wp2_with fail
          with_reducible refine HSm.out.mono ?_
          rintro e w9 ⟨rfl, m9, rfl⟩
          have HS9 := Lib.hid (HS8.out.quiet ((Ch.refl [] w8).drewN m9))
          go_frame
          go_wp2_with fail
          with_reducible refine HS9.out.nowA.mono ?_
          rintro e w10 ⟨rfl, rfl⟩
          go_frame
          go_wp2_with fail
          with_reducible refine HS9.out.nowB.mono ?_
          rintro e w11 ⟨rfl, rfl⟩
          go_frame
          go_wp2_with fail
          with_reducible refine HS9.out.idsA.mono ?_
          rintro e w12 ⟨u12, rfl, hr12, hb12⟩
          have HS12 := Lib.hid (HS9.out.below hb12)
          have HR12 := Lib.hid hr12
          clear hr12 hb12
          go_frame
          go_wp2_with fail
          with_reducible refine HS12.out.idsB.mono ?_
          rintro e w13 ⟨u13, rfl, hr13, hb13⟩
          have hr12' := own_ch HR12.out (Ch.of_below (S := []) hb13) (by simp)
          obtain ⟨a12, c12, rfl⟩ := own_form hr12'
          obtain ⟨a13, c13, rfl⟩ := own_form hr13
          have hii := (ints_own (zs := idsL (later L (max now en))) hr12').1
          have hjj := (ints_own (zs := idsL (later L (max now en))) hr13).1
          have hsm := Mk.same_eq a12 a13 c12 c13 (idsL (later L (max now en))) w13 (by rw [idsL_len]; have := HLen.out; have : (later L (max now en)).length ≤ L.length := List.length_filter_le _ _; omega) hii hjj
          rw [idsL_len] at hsm
          have HSn := Lib.hid hsm
          have HS13 := Lib.hid (HS12.out.below hb13)
          clear hr12' hr13 hb13 hii hjj hsm
          go_frame
          go_wp2_with fail
          with_reducible refine HSn.out.mono ?_
          rintro e w14 ⟨rfl, m14, rfl⟩
          go_frame
          go_wp2
          go_ret
          exact ⟨rfl, below_drewN HS13.out.bel _⟩
theorem steps_law {now en : Int} (hn : Wd now) (he : Wd en) (a2 : Option Addr) (len2 cap2 : Nat) (z2 : Nat → Int) (a3 : Option Addr) (len3 cap3 : Nat) (z3 : Nat → Int) (w : World) (hT : Mk.Tab w) (hlc2 : len2 ≤ cap2) (hcm2 : cap2 ≤ 9223372036854775807) (hzz2 : WordsAt w a2 len2 z2) (hlc3 : len3 ≤ cap3) (hcm3 : cap3 ≤ 9223372036854775807) (hzz3 : WordsAt w a3 len3 z3) :
    Calls Tryd.prog 4 #[.int .u64 now, .int .u64 en, .slice a2 len2 cap2, .slice a3 len3 cap3] w fun e w' => e = .returned (.bool true) ∧ Below w.heap.size w w' := by
  by_cases hm : now = 18446744073709551615
  · exact steps_max hm hn he a2 len2 cap2 z2 a3 len3 cap3 z3 w hT hlc2 hcm2 hzz2 hlc3 hcm3 hzz3
  · exact steps_some hn hm he a2 len2 cap2 z2 a3 len3 cap3 z3 w hT hlc2 hcm2 hzz2 hlc3 hcm3 hzz3
end Go.Proofs.YtcjemidflbfljaaDoor

/-
  A domain: Poll, New.
-/
import Derived.Test.YtjoaigadlpndcaaGreatDoorGrC
namespace Go.Proofs.YtjoaigadlpndcaaGreatDoor
open Go.RowKit Go.Shelf
open rC (Th)

section
variable {w0 w w' : World} {base top b A a L n : Nat} {d : Dm}
theorem GB.begin_any (h : GB w0 w base top b A a L n d) (hLw : L ≤ w.heap.size) (hgen : 0 ≤ d.gen ∧ d.gen ≤ 1000000) : Calls Tryz.prog 62 #[.pointer (some ⟨a, 0, none⟩)] w (BegR w0 w base top b A a L n d) := by
  cases hq : asks n d with
  | true => exact begin_yes h hLw hgen hq
  | false =>
    refine (begin_no h hq).mono ?_
    rintro e w1 ⟨rfl, hc⟩
    refine ⟨rfl, w.heap.size, Nat.le_refl _, ?_, .quiet hc⟩
    unfold begD
    rw [hq]
    exact h.quiet hc
theorem halves_any (w : World) : Calls Tryz.prog 45 #[] w fun e w' => e = .returned (.slice (some ⟨w.heap.size, 0, none⟩) 2 2) ∧ w' = w.alloc (.cells #[.func (.func 61) #[] #[], .func (.func 62) #[] #[]] 91) := by
  go_enter Tryz.func45, Tryz.ntmps45
  go_wp2
  go_ret
  exact ⟨rfl, rfl⟩
/-- append to a row, both of which may be nil. -/
theorem wpList_append_any {P : Program} {w : World} {ops : Array Oper} {rest : List Oper} {o : Oper} {a : Act} {Q : Exit → Act → World → Prop} (hgd : o.guard = none) (s x : Operand) (t : TypeId)
    (ho : o.op = .call { callee := .builtin .append, args := #[s, x], argTypes := #[t, t] })
    (base : Nat) (e : TypeId) (i : TypeInfo) (z : Value) (size bytes : Nat) (ht : P.underlying t = some (.slice e)) (hi : P.info? e = some i) (hz : i.zero = some z)
    (hsize : i.size = size) (hby : i.bytes = bytes) (hzs : z.cells.size = size) (hsz : 0 < size)
    (v : Value) (n : Nat) (xs : List Value) (hs : a.eval s = v) (hown : w.ownsRow base e size v n xs)
    (S : Nat) (vx : Value) (m : Nat) (news : List Value) (hx : a.eval x = vx) (hsrc : w.ownsRow S e size vx m news) (h1 : ∀ u ∈ news, u.oneCell' = true)
    (h63 : n + m ≤ maxLen) (hbytes : (n + m) * bytes ≤ 140737488355328) (hbase : base ≤ w.heap.size)
    (h : ∀ v' w', w'.ownsRow base e size v' (n + m) (xs ++ news) → w.grownBy w' v.ownBlock → wpList P ops Q rest (a.put o.dst v') w') : wpList P ops Q (o :: rest) a w := by
  have hl := hsrc.1
  rcases hsrc.2 with ⟨rfl, rfl⟩ | ⟨g, cp, cur, rfl, _⟩
  · obtain rfl : news = [] := List.eq_nil_of_length_eq_zero (by simpa using hl)
    exact wpList_append_own_none hgd s x t ho base e i size ht hi v n xs hs hown hx (h v w (by simpa using hown) ⟨rfl, rfl, rfl, Nat.le_refl _, fun _ _ _ => rfl⟩)
  · exact wpList_append_own w hgd s x t ho base e i z size bytes ht hi hz hsize hby hzs hsz v n xs hs hown ⟨g, 0, none⟩ m cp news hx hl (hsrc.cells rfl) h1 h63 hbytes hbase
      (fun v' w' h2 h3 _ => h v' w' h2 h3)

/-- What a poll comes to. -/
def PollR (w0 w : World) (base top b A a L n : Nat) (d : Dm) (e : Ending) (w' : World) : Prop :=
  ∃ v, e = .returned v ∧ w'.ownsRow w.heap.size 3 1 v (endO n d).length (ivs (endO n d)) ∧ ∃ c, w.heap.size ≤ c ∧ GB w0 w' base top b A a L n (begD c n (endD d)) ∧ ChP (GO base a d.sc) w w'
theorem endO_len (h : GB w0 w base top b A a L n d) : (endO n d).length ≤ 4096 := by
  have h1 := h.l.n64
  have h2 := outN_len (gen := d.gen) h.l.len n (Nat.le_refl _)
  have h3 : n * 64 ≤ 64 * 64 := Nat.mul_le_mul_right _ h1.2
  unfold endO
  split
  · simp
  · split
    · omega
    · simp
theorem GB.o_lt (h : GB w0 w base top b A a L n d) {k : Nat} (hk : GO base a d.sc k) : k < w.heap.size := by
  rcases hk with hk | ⟨s, e, rfl⟩
  · have := h.lt; omega
  · exact (h.sc_ne e).1
theorem ivs_one (O : List Int) : ∀ u ∈ ivs O, u.oneCell' = true := fun u hu => by obtain ⟨z, _, rfl⟩ := List.mem_map.1 hu; rfl
set_option maxRecDepth 100000 in
set_option maxHeartbeats 4000000 in
theorem GB.poll (h : GB w0 w base top b A a L n d) (hLw : L ≤ w.heap.size) (hgen : 0 ≤ d.gen ∧ d.gen ≤ 1000000) : Calls Tryz.prog 16 #[.pointer (some ⟨a, 0, none⟩)] w (PollR w0 w base top b A a L n d) := by
  obtain ⟨i0, hI, hz0, hz1, hz2⟩ := info_parts infoI
  obtain ⟨O, hO⟩ : ∃ O, O = endO n d := ⟨_, rfl⟩
  have hOl := endO_len h
  rw [← hO] at hOl
  have HO := Lib.hid hO
  have HLw := Lib.hid hLw
  have HGn := Lib.hid hgen
  have H := Lib.hid h
  obtain ⟨W1, hW1⟩ : ∃ W, W = w.alloc (.cells #[.func (.func 61) #[] #[], .func (.func 62) #[] #[]] 91) := ⟨_, rfl⟩
  have hal : Ch [] w W1 := by rw [hW1]; exact (Ch.refl [] w).alloc _
  have t0 : W1.cell? ⟨w.heap.size, 0, none⟩ = some (.func (.func 61) #[] #[]) := by rw [hW1, World.cell?_alloc_at _ _ _ _ rfl]; rfl
  have t1 : W1.cell? ⟨w.heap.size, 1, none⟩ = some (.func (.func 62) #[] #[]) := by rw [hW1, World.cell?_alloc_at _ _ _ _ rfl]; rfl
  have hs1 : w.heap.size + 1 = W1.heap.size := by rw [hW1]; simp
  have HE := Lib.hid ((h.quiet hal).end_any)
  have HAl := Lib.hid hal
  have HW1 := Lib.hid hW1
  have HS1 := Lib.hid hs1
  have T1 := Lib.hid t1
  clear h hO hLw hgen hal hs1 hW1 t1
  go_enter Tryz.func16, Tryz.ntmps16
  go_wp2_with fail
  with_reducible refine (halves_any w).mono ?_
  rintro e w1 ⟨rfl, e1⟩
  rw [← HW1.out] at e1
  subst e1
  go_wp2_with fail
  refine wp_loop_rounds 3 ?_
  rw [rounds_succ]
  go_wp2_with fail
  with_reducible refine HE.out.mono ?_
  rintro e w2 ⟨v, rfl, hrow, hg, hc⟩
  rw [← HO.out] at hrow
  have hsz2 : w.heap.size ≤ w2.heap.size := by have := HS1.out; have := hc.size; omega
  have T2 := Lib.hid ((hc.cell (p := ⟨w.heap.size, 1, none⟩) (cell_lt T1.out) (fun o => by have := H.out.o_lt o; simp only at this; omega)).trans T1.out)
  have HRw := Lib.hid hrow
  have HG2 := Lib.hid hg
  have HC2 := Lib.hid ((ChP.quiet HAl.out).trans hc)
  have HOl := Lib.hid hOl
  clear hrow hg hc t0 T1 HE
  obtain ⟨a2, cap2, rfl⟩ := own_form HRw.out
  go_wp2_with (at_builtin; go_must (refine wpList_append_any rfl _ _ 48 rfl w.heap.size 3 i0 (.int .i64 0) 1 8 Tryz.underlying48 hI hz0 hz1 hz2 rfl (by decide) (.slice none 0 0) 0 [] rfl ?c0 w1.heap.size (.slice a2 O.length cap2) O.length (ivs O) rfl ?c2 (ivs_one O) ?c3 ?c4 ?c5 ?_))
  case c0 => exact nil_row _ _ _ _
  case c2 => exact HRw.out
  case c3 => have := HOl.out; simp only [maxLen]; omega
  case c4 => have := HOl.out; omega
  case c5 => exact hsz2
  intro v2 w3 hrow2 hgr
  have hc3 : Ch [] w2 w3 := (Ch.refl [] w2).kept hgr (fun r e => by cases e)
  have t1 := (hc3.cell (p := ⟨w.heap.size, 1, none⟩) (cell_lt T2.out) (by simp)).trans T2.out
  have HG3 := Lib.hid (HG2.out.quiet hc3)
  have HC3 := Lib.hid (HC2.out.trans (.quiet hc3))
  have HR2 := Lib.hid hrow2
  have HB := Lib.hid (HG3.out.begin_any (Nat.le_trans HLw.out HC3.out.size) (by rw [(end_x d).2.1]; exact HGn.out))
  clear hrow2 hgr hc3 T2 HG2 HC2 HRw hsz2
  go_wp2_with fail
  rw [rounds_succ]
  go_wp2_with fail
  with_reducible refine HB.out.mono ?_
  rintro e w4 ⟨rfl, c, hlo, hg, hc⟩
  have HRw := Lib.hid (own_chP HR2.out hc (fun g e o => by
    have h1 := (HR2.out.lt g e).1
    have h2 := H.out.o_lt (end_go o)
    omega))
  have HCl := Lib.hid (Nat.le_trans HC3.out.size hlo)
  have HG4 := Lib.hid hg
  have HC4 := Lib.hid (HC3.out.trans (hc.mono fun k o => end_go o))
  clear hlo hg hc HB HR2 HG3 HC3 t1
  obtain ⟨a4, cap4, rfl⟩ := own_form HRw.out
  go_wp2_with (at_builtin; go_must (refine wpList_append_own_none rfl _ _ 48 rfl w.heap.size 3 i0 1 Tryz.underlying48 hI (.slice a4 O.length cap4) O.length (ivs O) rfl ?c0 rfl ?_))
  case c0 => exact HRw.out
  go_wp2_with fail
  rw [rounds_succ]
  go_wp2_with fail
  go_ret
  refine ⟨_, rfl, ?_, c, HCl.out, HG4.out, HC4.out⟩
  rw [← HO.out]
  exact HRw.out
end
/-- A new domain. -/
def dZ : Dm := ⟨SS.zero, fun _ => [], 0, 0, none⟩
set_option maxHeartbeats 1000000 in
theorem gb_new {w0 w : World} (hc : Ch [] w0 w) (hT : Mk.Tab w0) {n : Nat} (h0 : 1 ≤ n) (h1 : n ≤ 64) :
    Calls Tryz.prog 4 #[.int .i64 (n : Int)] w fun e w' => ∃ top b A a, e = .returned (.tuple #[.pointer (some ⟨a, 0, none⟩), .int .i64 0]) ∧ GB w0 w' w.heap.size top b A a w'.heap.size n dZ ∧ Ch [] w w' := by
  have H1 := Lib.hid (lc_new h0 h1 w)
  have HC := Lib.hid hc
  have HT := Lib.hid hT
  clear hc hT h0 h1
  go_enter Tryz.func4, Tryz.ntmps4
  go_wp2_with fail
  with_reducible refine H1.out.mono ?_
  rintro e w1 ⟨A, rfl, hl, hb⟩
  have HL := Lib.hid hl
  have HB := Lib.hid (Ch.of_below (S := []) hb)
  have hz : Sem.run Tryz.prog (zeroValue 71) w1 = .ok (.agg secZ) w1 := secZ_zero w1
  clear hl hb H1
  go_wp2_with fail
  have hsz := HL.out.hi
  obtain ⟨w2, hw2⟩ : ∃ W, W = w1.alloc (.cells secZ 71) := ⟨_, rfl⟩
  have s2 : w1.heap.size + 1 = w2.heap.size := by rw [hw2]; simp
  have hS : SL w0 w2 w1.heap.size SS.zero := by rw [hw2]; exact SL.new w0 (HC.out.trans HB.out) _
  have hc2 : Ch [] w1 w2 := by rw [hw2]; exact (Ch.refl [] w1).alloc _
  rw [← hw2, s2]
  have hal : Ch [] w2 (w2.alloc (.cells #[.pointer (some ⟨w1.heap.size, 0, none⟩), .pointer (some ⟨A, 0, none⟩), .pointer none, .int .i64 0, .int .i64 0] 74)) := (Ch.refl [] w2).alloc _
  go_ret2
  refine ⟨w1.heap.size, w1.heap.size, A, w2.heap.size, rfl, ?_, (HB.out.trans hc2).trans hal⟩
  refine ⟨?_, ?_, ?_, ?_, ?_, fun k => World.frozen?_alloc_new w2 _ _ _, hS.quiet hal, HL.out.quiet (hc2.trans hal), HC.out.size, Nat.le_refl _, by omega, by simp, fun s e => (by cases e), HT.out⟩
  all_goals (rw [World.cell?_alloc_at _ _ _ _ rfl]; rfl)
theorem gb_bad {i : Int} (h : i < 1 ∨ 64 < i) (w : World) :
    Calls Tryz.prog 4 #[.int .i64 i] w fun e w' => e = .returned (.tuple #[.pointer none, .int .i64 2]) ∧ w = w' := by
  have H1 := Lib.hid (new_bad h w)
  clear h
  go_enter Tryz.func4, Tryz.ntmps4
  go_wp2_with fail
  with_reducible refine H1.out.mono ?_
  rintro e w1 ⟨rfl, rfl⟩
  go_wp2_with fail
  go_ret2
  exact ⟨rfl, rfl⟩
end Go.Proofs.YtjoaigadlpndcaaGreatDoor

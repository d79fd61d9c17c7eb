/-
  The program's wheel beside the document's answer: Put, Del, To of both, one after the other.
-/
import Derived.Test.YtcjemidflbfljaaGreatDoorWpG
namespace Go.Proofs.YtcjemidflbfljaaGreatDoor
open Go.RowKit Go.Maps

theorem Box2.chP {T : Nat → Prop} {w w' : World} {b : Nat} {u v : Value} (h : Box2 w b u v) (hc : ChP T w w') (hn : ¬ T b) : Box2 w' b u v :=
  ⟨(hc.cell (p := ⟨b, 0, none⟩) h.lt hn).trans h.c0, (hc.cell (p := ⟨b, 1, none⟩) h.lt hn).trans h.c1, (hc.frozen (p := ⟨b, 0, none⟩) h.lt hn).trans h.f0, (hc.frozen (p := ⟨b, 1, none⟩) h.lt hn).trans h.f1⟩
theorem Four.chP {T : Nat → Prop} {w w' : World} {b : Nat} {x y z u : Value} (h : Four w b x y z u) (hc : ChP T w w') (hn : ¬ T b) : Four w' b x y z u :=
  ⟨(hc.cell (p := ⟨b, 0, none⟩) h.lt hn).trans h.c0, (hc.cell (p := ⟨b, 1, none⟩) h.lt hn).trans h.c1, (hc.cell (p := ⟨b, 2, none⟩) h.lt hn).trans h.c2, (hc.cell (p := ⟨b, 3, none⟩) h.lt hn).trans h.c3⟩
/-- What both wheels tell of a number. -/
theorem look_ix {L : List Tm} (hnd : (L.map (·.id)).Nodup) (k : Int) : (lookB L k = false ∧ ixOf L k = -1) ∨ ∃ (j : Nat) (x : Tm), lookB L k = true ∧ ixOf L k = (j : Int) ∧ j < L.length ∧ L[j]? = some x ∧ findS L k = x.sp := by
  by_cases hin : ∃ t ∈ L, t.id = k
  · obtain ⟨t, ht, rfl⟩ := hin
    obtain ⟨P, R, rfl, hA, -⟩ := split_id hnd ht
    have hf : (P ++ t :: R).find? (fun u => decide (u.id = t.id)) = some t := by
      rw [List.find?_append, List.find?_eq_none.2 (fun u hu => by simpa using hA u hu)]
      simp
    refine .inr ⟨P.length, t, ?_, ixOf_in hA, by simp, by simp, ?_⟩
    · unfold lookB; rw [hf]; rfl
    · unfold findS; rw [hf]
  · have hno : ∀ t ∈ L, t.id ≠ k := fun t ht e => hin ⟨t, ht, e⟩
    exact .inl ⟨(lookV_no hno).2, ixOf_neg hno⟩
section
variable {w0 w : World} {B M A na : Nat} {c : Nat → Value} {now : Int} {puts : Nat} {L Lu : List Tm} {v u : Value}
theorem PP.put_both (h : PP w0 w B M A na c now puts L now v L u Lu) (id : Int) {at' : Int} (ha : Wd at') (hp : puts < 4611686018427387904) :
    ∃ (q : Sp) (E : Int) (puts' : Nat) (L' : List Tm), puts' ≤ puts + 1 ∧
      Calls Tryz.prog 5 #[rw7 now v, .int .i64 id, .int .u64 at'] w (fun e w1 => ∃ v', e = .returned (.tuple #[rw7 now v', spV q, .int .i64 E]) ∧ PP w0 w1 B M A na c now puts L now v L v' L' ∧ Ch [] w w1) ∧
      ∀ (w1 wb : World) (v' : Value), PP w0 w1 B M A na c now puts L now v L v' L' → Ch [] w1 wb →
        Calls Tryz.prog 6 #[.pointer (some ⟨B, 0, none⟩), .int .i64 id, .int .u64 at'] wb fun e w2 => e = .returned (.tuple #[spV q, .int .i64 E]) ∧ PP w0 w2 B M A na c now puts' L' now v L v' L' ∧ ChP (fun k => k < w1.heap.size) wb w2 := by
  by_cases hr : id < 0 ∨ 256 ≤ id
  · exact ⟨sp0, 2, puts, L, by omega, (rput_range h.rowv (by omega) now at').mono fun _ _ ⟨he, hc⟩ => ⟨v, he, h.same.quiet hc, hc⟩, fun _ _ _ h1 hb => (put_range hr at' _).mono fun _ _ ⟨he, hc⟩ => ⟨he, (h1.quiet hb).quiet hc, .quiet hc⟩⟩
  have h0 : 0 ≤ id := by omega
  have h1 : id < 256 := by omega
  by_cases hin : ∃ t ∈ L, t.id = id
  · refine ⟨sp0, 5, puts, L, by omega, (rput_twice h.rowv h.wi.len h0 h1 hin now at').mono fun _ _ ⟨he, hc⟩ => ⟨v, he, h.same.quiet hc, hc⟩, fun _ _ _ k1 hb => ?_⟩
    obtain ⟨S, j1, _⟩ := (k1.quiet hb).sep
    exact (put_twice j1 h0 h1 hin at').mono fun _ _ ⟨he, hc⟩ => ⟨he, (k1.quiet hb).quiet hc, .quiet hc⟩
  have hno : ∀ t ∈ L, t.id ≠ id := fun t ht e => hin ⟨t, ht, e⟩
  by_cases hm : now = 18446744073709551615
  · refine ⟨sp0, 12, puts, L, by omega, (rput_max h.rowv h.wi.len h0 h1 hno hm at').mono fun _ _ ⟨he, hc⟩ => ⟨v, he, h.same.quiet hc, hc⟩, fun _ _ _ k1 hb => ?_⟩
    obtain ⟨S, j1, _⟩ := (k1.quiet hb).sep
    have j2 : WB _ w0.heap.size B S 18446744073709551615 puts L := hm ▸ j1
    exact (put_max j2 h0 h1 hno at').mono fun _ _ ⟨he, hc⟩ => ⟨he, (k1.quiet hb).quiet hc, .quiet hc⟩
  refine ⟨placeV now at', 0, puts + 1, L ++ [⟨id, placeV now at', puts⟩], by omega, (rput_ok h.rowv h.bel.size h.wi.len h0 h1 hno h.wi.wd ha hm puts).mono fun _ _ ⟨v', he, hr', hc⟩ => ⟨v', he, h.pend hc (hr'.mono h.bel.size) (.inr fun g hg => (World.ownsRow.lt hr' g hg).1), hc⟩, fun _ _ _ k1 hb => ?_⟩
  obtain ⟨S, j1, j2, j3, j4, j5⟩ := k1.sep
  exact (put_ok (j1.quiet hb) h0 h1 hno ha hm hp).mono fun _ _ ⟨he, hw', hc⟩ => ⟨he, (k1.quiet hb).stepS (j1.quiet hb) j2 j3 j4 j5 hw' hc, hc.mono fun k hk => j1.hi k hk⟩
theorem less_two (L : List Tm) (k : Int) : delL L [k, k] = less L k := by
  simp only [delL, List.foldl, less, List.filter_filter, Bool.and_self]
theorem PP.del_both (h : PP w0 w B M A na c now puts L now v L u Lu) {id : Int} (hid : wf64 id) :
    ∃ (b : Bool) (L' : List Tm),
      Calls Tryz.prog 8 #[rw7 now v, .int .i64 id] w (fun e w1 => ∃ v', e = .returned (.tuple #[rw7 now v', .bool b]) ∧ PP w0 w1 B M A na c now puts L now v L v' L' ∧ Ch [] w w1) ∧
      ∀ (w1 wb : World) (v' : Value) (o : Obj) (cap : Nat), PP w0 w1 B M A na c now puts L now v L v' L' → Ch [] w1 wb → Mk.IntsAt (wb.alloc o) (some ⟨wb.heap.size, 0, none⟩) [id, id] →
        Calls Tryz.prog 9 #[.pointer (some ⟨B, 0, none⟩), .slice (some ⟨wb.heap.size, 0, none⟩) 2 cap] (wb.alloc o) fun e w2 => e = .returned (.int .i64 (if b then 1 else 0)) ∧ PP w0 w2 B M A na c now puts L' now v L v' L' ∧ ChP (fun k => k < w1.heap.size) (wb.alloc o) w2 := by
  have hdel : ∀ {w1 wb : World} {v' : Value} {L' : List Tm} (o : Obj) (cap : Nat), PP w0 w1 B M A na c now puts L now v L v' L' → Ch [] w1 wb → Mk.IntsAt (wb.alloc o) (some ⟨wb.heap.size, 0, none⟩) [id, id] →
        Calls Tryz.prog 9 #[.pointer (some ⟨B, 0, none⟩), .slice (some ⟨wb.heap.size, 0, none⟩) 2 cap] (wb.alloc o) fun e w2 => e = .returned (.int .i64 ((L.length - (less L id).length : Nat) : Int)) ∧ PP w0 w2 B M A na c now puts (less L id) now v L v' L' ∧ ChP (fun k => k < w1.heap.size) (wb.alloc o) w2 := by
    intro w1 wb v' L' o cap k1 hb hz
    obtain ⟨S, j1, j2, j3, j4, j5⟩ := k1.sep
    have hal := hb.alloc o
    have := hb.size
    have H := del_any (cap := cap) (j1.quiet hal) hz (by simp) (fun x hx => by simp at hx; exact hx ▸ hid) (fun b o e hS => by cases e; have := j1.hi _ hS; omega)
    rw [less_two] at H
    exact H.mono fun _ _ ⟨he, hw', hc⟩ => ⟨he, (k1.quiet hal).stepS (j1.quiet hal) j2 j3 j4 j5 (hw'.moreS (k1.quiet hal).bel.size) hc, hc.mono fun k hk => j1.hi k hk⟩
  by_cases hin : ∃ t ∈ L, t.id = id
  · obtain ⟨t, ht, rfl⟩ := hin
    obtain ⟨P, R, e, hA, hl⟩ := split_id h.wi.nd ht
    have hlen := less_length h.wi.nd ht
    refine ⟨true, less L t.id, ?_, fun _ _ _ o cap k1 hb hz => ?_⟩
    · rw [hl]
      have hrv : RT w w0.heap.size v (P ++ t :: R) := e ▸ h.rowv
      exact (rdel_in hrv h.bel.size (e ▸ h.wi.len) hA now).mono fun _ _ ⟨v', he, hr', hc⟩ => ⟨v', he, h.pend hc (hr'.mono h.bel.size) (.inr fun g hg => (World.ownsRow.lt hr' g hg).1), hc⟩
    · have H := hdel o cap k1 hb hz
      rw [show L.length - (less L t.id).length = 1 by omega] at H
      exact H
  · have hno : ∀ t ∈ L, t.id ≠ id := fun t ht e => hin ⟨t, ht, e⟩
    refine ⟨false, L, (rdel_not h.rowv h.wi.len hno now).mono fun _ _ ⟨he, hc⟩ => ⟨v, he, h.same.quiet hc, hc⟩, fun _ _ _ o cap k1 hb hz => ?_⟩
    have H := hdel o cap k1 hb hz
    rw [less_no hno, show L.length - L.length = 0 by omega] at H
    exact H
theorem PP.to_both (h : PP w0 w B M A na c now puts L now v L u Lu) (hT : Mk.Tab w0) {x : Int} (hx : Wd x) :
    ∃ (now' : Int) (L' : List Tm) (xs : List Int), now' = max now x ∧ xs.length ≤ 256 ∧
      Calls Tryz.prog 10 #[rw7 now v, .int .u64 x] w fun e w1 => ∃ v' r, e = .returned (.tuple #[rw7 now' v', r]) ∧ PP w0 w1 B M A na c now puts L now v L v' L' ∧ w1.ownsRow w.heap.size 3 1 r xs.length (xs.map iv) ∧ Ch [] w w1 ∧
        ∀ wb : World, Ch [] w1 wb →
          Calls Tryz.prog 12 #[.pointer (some ⟨B, 0, none⟩), .int .u64 x] wb fun e w2 => ∃ r, e = .returned r ∧ w2.ownsRow wb.heap.size 3 1 r xs.length (xs.map iv) ∧ PP w0 w2 B M A na c now' puts L' now v L v' L' ∧ ChP (fun k => k < w.heap.size) wb w2 := by
  rcases Int.lt_or_le now x with hlt | hle
  · refine ⟨x, later L x, outs L x, by omega, ?_, (rto_any h.rowv h.bel.size h.wi.len h.wi.rise h.wi.nd hlt).mono fun _ _ ⟨v', r, he, hr', hv, hr, hc⟩ => ⟨v', r, he, h.pend hc hr' hv, hr, hc, fun wb hb => ?_⟩⟩
    · have := h.wi.len
      have := List.length_filter_le (fun t => decide (t.sp.due ≤ x)) L
      unfold outs upto
      rw [List.length_map, DL_length]
      omega
    have hp := (h.pend hc hr' hv).quiet hb
    obtain ⟨S, k1, k2, k3, k4, k5⟩ := h.sep
    have j1 := k1.quiet (hc.trans hb)
    have j4 : ∀ g, v'.ownBlock = some g → ¬ S g := fun g hg e => by
      rcases hv with rfl | hv
      · exact k3 g hg e
      · have := hv g hg
        have := k1.hi g e
        omega
    exact (to_any j1 (hp.tab hT) hx hlt).mono fun _ _ ⟨r, he, hr, hw', hc'⟩ => ⟨r, he, hr, hp.stepS j1 k2 k3 j4 k5 (hw'.moreS hp.bel.size) hc', hc'.mono fun k hk => k1.hi k hk⟩
  · refine ⟨now, L, [], by omega, by simp, (rto_less h.rowv hle).mono fun _ _ ⟨he, hc⟩ => ⟨v, _, he, h.same.quiet hc, World.ownsRow_nil _ _ _ _, hc, fun wb hb => ?_⟩⟩
    have hp := (h.same.quiet hc).quiet hb
    obtain ⟨S, j1, _⟩ := hp.sep
    exact (to_less j1 hle).mono fun _ _ ⟨he, hc⟩ => ⟨_, he, World.ownsRow_nil _ _ _ _, hp.quiet hc, .quiet hc⟩
theorem PP.pids (h : PP w0 w B M A na c now puts L now v L u Lu) : Calls Tryz.prog 19 #[.pointer (some ⟨B, 0, none⟩)] w fun e w' => ∃ r, e = .returned r ∧ w'.ownsRow w.heap.size 3 1 r L.length ((idsL L).map iv) ∧ Ch [] w w' :=
  h.ids.mono fun _ _ ⟨r, he, hr, hb⟩ => ⟨r, he, hr, Ch.of_below hb⟩
theorem PP.rids (h : PP w0 w B M A na c now puts L now v L u Lu) : Calls Tryz.prog 20 #[rw7 now v] w fun e w' => ∃ r, e = .returned r ∧ w'.ownsRow w.heap.size 3 1 r L.length ((idsL L).map iv) ∧ Ch [] w w' := by
  have H := rids_any now h.rowv h.wi.len
  rw [idsN_all h.wi.nd h.wi.ids, idsL_length] at H
  exact H
end
end Go.Proofs.YtcjemidflbfljaaGreatDoor

/-
  The program's wheel beside the document's answer: what a call of either turns.
-/
import Derived.Test.YtcjemidflbfljaaGreatDoorWpF
namespace Go.Proofs.YtcjemidflbfljaaGreatDoor
open Go.RowKit Go.Maps

/-- The program's wheel (B, L); the answer's in a box M (nr, v, Lr), and one that is still to be stored (u, Lu). -/
structure PP (w0 w : World) (B M A na : Nat) (c : Nat → Value) (now : Int) (puts : Nat) (L : List Tm) (nr : Int) (v : Value) (Lr : List Tm) (u : Value) (Lu : List Tm) : Prop where
  sep : ∃ S : Nat → Prop, WB w w0.heap.size B S now puts L ∧ ¬ S M ∧ (∀ g, v.ownBlock = some g → ¬ S g) ∧ (∀ g, u.ownBlock = some g → ¬ S g) ∧ (na = 0 ∨ ¬ S A)
  box : Box2 w M (.int .u64 nr) v
  rowv : RT w w0.heap.size v Lr
  rowu : RT w w0.heap.size u Lu
  lo : w0.heap.size ≤ M
  nv : ∀ g, v.ownBlock = some g → g ≠ M
  nu : ∀ g, u.ownBlock = some g → g ≠ M
  bel : Below w0.heap.size w0 w
  act : ∀ o, o < na → w.cell? ⟨A, o, none⟩ = some (c o)
  an : na = 0 ∨ A ≠ M
section
variable {w0 w w' : World} {B M A na : Nat} {c : Nat → Value} {now nr : Int} {puts : Nat} {L Lr Lu : List Tm} {v u : Value}
theorem act_chP {T : Nat → Prop} (h : ∀ o, o < na → w.cell? ⟨A, o, none⟩ = some (c o)) (hc : ChP T w w') (hT : na = 0 ∨ ¬ T A) : ∀ o, o < na → w'.cell? ⟨A, o, none⟩ = some (c o) := fun o ho =>
  (hc.cell (p := ⟨A, o, none⟩) (cell_lt (h o ho)) (hT.resolve_left (by omega))).trans (h o ho)
theorem act_quiet (h : ∀ o, o < na → w.cell? ⟨A, o, none⟩ = some (c o)) (hc : Ch [] w w') : ∀ o, o < na → w'.cell? ⟨A, o, none⟩ = some (c o) := act_chP h (T := fun _ => False) (.quiet hc) (.inr (fun e => e))
theorem PP.tab (h : PP w0 w B M A na c now puts L nr v Lr u Lu) (hT : Mk.Tab w0) : Mk.Tab w := hT.below h.bel (tab_lt hT)
theorem PP.wi (h : PP w0 w B M A na c now puts L nr v Lr u Lu) : WI now puts L := by obtain ⟨S, h1, _⟩ := h.sep; exact h1.wi
theorem PP.quiet (h : PP w0 w B M A na c now puts L nr v Lr u Lu) (hc : Ch [] w w') : PP w0 w' B M A na c now puts L nr v Lr u Lu := by
  obtain ⟨S, h1, h2, h3, h4, h5⟩ := h.sep
  exact ⟨⟨S, h1.quiet hc, h2, h3, h4, h5⟩, h.box.ch hc (by simp), h.rowv.quiet hc, h.rowu.quiet hc, h.lo, h.nv, h.nu, h.bel.trans (hc.below _ (fun k hk => by simp at hk) h.bel.size), act_quiet h.act hc, h.an⟩
/-- Another one to be stored, in a new row, or the one that lies in the box. -/
theorem PP.pend (h : PP w0 w B M A na c now puts L nr v Lr u Lu) (hc : Ch [] w w') {u' : Value} {Lu' : List Tm} (hr : RT w' w0.heap.size u' Lu') (hv : u' = v ∨ ∀ g, u'.ownBlock = some g → w.heap.size ≤ g) : PP w0 w' B M A na c now puts L nr v Lr u' Lu' := by
  have hq := h.quiet hc
  obtain ⟨S, h1, h2, h3, h4, h5⟩ := h.sep
  have hM := h.box.lt
  refine ⟨⟨S, h1.quiet hc, h2, h3, fun g hg => ?_, h5⟩, hq.box, hq.rowv, hr, h.lo, h.nv, fun g hg => ?_, hq.bel, hq.act, h.an⟩
  · rcases hv with rfl | hv
    · exact h3 g hg
    · intro hS
      have := hv g hg
      have := h1.hi g hS
      omega
  · rcases hv with rfl | hv
    · exact h.nv g hg
    · intro e
      have := hv g hg
      omega
theorem PP.same (h : PP w0 w B M A na c now puts L nr v Lr u Lu) : PP w0 w B M A na c now puts L nr v Lr v Lr := by
  obtain ⟨S, h1, h2, h3, h4, h5⟩ := h.sep
  exact ⟨⟨S, h1, h2, h3, h3, h5⟩, h.box, h.rowv, h.rowv, h.lo, h.nv, h.nv, h.bel, h.act, h.an⟩
/-- It is stored. -/
theorem PP.store (h : PP w0 w B M A na c now puts L nr v Lr u Lu) (nr' : Int) : PP w0 ((w.setCell ⟨M, 0, none⟩ (.int .u64 nr')).setCell ⟨M, 1, none⟩ u) B M A na c now puts L nr' u Lu u Lu := by
  obtain ⟨S, h1, h2, h3, h4, h5⟩ := h.sep
  have hc : ChP (fun k => k = M) w ((w.setCell ⟨M, 0, none⟩ (.int .u64 nr')).setCell ⟨M, 1, none⟩ u) := ChP.setCell (S := fun k => k = M) (ChP.setCell (S := fun k => k = M) (ChP.refl _ w) (p := ⟨M, 0, none⟩) (.inl rfl) _) (p := ⟨M, 1, none⟩) (.inl rfl) _
  have hru := h.rowu.chP hc (fun g hg => h.nu g hg)
  exact ⟨⟨S, h1.frame hc (fun k hk e => h2 (e ▸ hk)), h2, h4, h4, h5⟩, h.box.set _ _, hru, hru, h.lo, h.nu, h.nu, h.bel.trans (hc.below _ (fun k e => e ▸ h.lo) h.bel.size), act_chP h.act hc h.an, h.an⟩
/-- A step of the program's wheel. -/
theorem PP.stepS (h : PP w0 w B M A na c now puts L nr v Lr u Lu) {S : Nat → Prop} (h1 : WB w w0.heap.size B S now puts L) (h2 : ¬ S M) (h3 : ∀ g, v.ownBlock = some g → ¬ S g) (h4 : ∀ g, u.ownBlock = some g → ¬ S g) (h5 : na = 0 ∨ ¬ S A) {now' : Int} {puts' : Nat} {L' : List Tm}
    (k1 : WB w' w0.heap.size B (fun k => S k ∨ (w.heap.size ≤ k ∧ k < w'.heap.size)) now' puts' L') (k2 : ChP S w w') : PP w0 w' B M A na c now' puts' L' nr v Lr u Lu := by
  have hM := h.box.lt
  refine ⟨⟨_, k1, ?_, fun g hg e => ?_, fun g hg e => ?_, ?_⟩, ⟨(k2.cell (p := ⟨M, 0, none⟩) hM h2).trans h.box.c0, (k2.cell (p := ⟨M, 1, none⟩) hM h2).trans h.box.c1, (k2.frozen (p := ⟨M, 0, none⟩) hM h2).trans h.box.f0, (k2.frozen (p := ⟨M, 1, none⟩) hM h2).trans h.box.f1⟩,
    h.rowv.chP k2 h3, h.rowu.chP k2 h4, h.lo, h.nv, h.nu, h.bel.trans (k2.below _ h1.wc.lo h.bel.size), act_chP h.act k2 h5, h.an⟩
  · rintro (e | ⟨e1, e2⟩)
    · exact h2 e
    · omega
  · rcases e with e | ⟨e1, e2⟩
    · exact h3 g hg e
    · have := (World.ownsRow.lt h.rowv g hg).2; omega
  · rcases e with e | ⟨e1, e2⟩
    · exact h4 g hg e
    · have := (World.ownsRow.lt h.rowu g hg).2; omega
  · by_cases hna : na = 0
    · exact .inl hna
    · refine .inr ?_
      rintro (e | ⟨e1, e2⟩)
      · exact h5.resolve_left hna e
      · have h9 : A < w.heap.size := cell_lt (h.act 0 (by omega))
        omega
theorem WB.moreS {w : World} {base B : Nat} {S : Nat → Prop} {now : Int} {puts : Nat} {L : List Tm} (h : WB w base B S now puts L) {n0 : Nat} (hn : base ≤ n0) : WB w base B (fun k => S k ∨ (n0 ≤ k ∧ k < w.heap.size)) now puts L := by
  refine ⟨h.wi, h.wc.more (fun k _ hk => .inl hk) (fun k hk => ?_), fun k hk => ?_⟩
  · rcases hk with hk | hk
    · exact h.wc.lo k hk
    · omega
  · rcases hk with hk | hk
    · exact h.hi k hk
    · exact hk.2
theorem PP.put (h : PP w0 w B M A na c now puts L nr v Lr u Lu) {id : Int} (h0 : 0 ≤ id) (h1 : id < 256) (hno : ∀ t ∈ L, t.id ≠ id) {at' : Int} (ha : Wd at') (hm : now ≠ 18446744073709551615) (hp : puts < 4611686018427387904) :
    Calls Tryz.prog 6 #[.pointer (some ⟨B, 0, none⟩), .int .i64 id, .int .u64 at'] w fun e w' => e = .returned (.tuple #[spV (placeV now at'), .int .i64 0]) ∧ PP w0 w' B M A na c now (puts + 1) (L ++ [⟨id, placeV now at', puts⟩]) nr v Lr u Lu := by
  obtain ⟨S, k1, k2, k3, k4, k5⟩ := h.sep
  exact (put_ok k1 h0 h1 hno ha hm hp).mono fun _ _ ⟨he, hw', hc⟩ => ⟨he, h.stepS k1 k2 k3 k4 k5 hw' hc⟩
theorem PP.range (h : PP w0 w B M A na c now puts L nr v Lr u Lu) {id : Int} (hr : id < 0 ∨ 256 ≤ id) (at' : Int) :
    Calls Tryz.prog 6 #[.pointer (some ⟨B, 0, none⟩), .int .i64 id, .int .u64 at'] w fun e w' => e = .returned (.tuple #[spz, .int .i64 2]) ∧ PP w0 w' B M A na c now puts L nr v Lr u Lu :=
  (put_range hr at' w).mono fun _ _ ⟨he, hc⟩ => ⟨he, h.quiet hc⟩
theorem PP.twice (h : PP w0 w B M A na c now puts L nr v Lr u Lu) {id : Int} (h0 : 0 ≤ id) (h1 : id < 256) (hin : ∃ t ∈ L, t.id = id) (at' : Int) :
    Calls Tryz.prog 6 #[.pointer (some ⟨B, 0, none⟩), .int .i64 id, .int .u64 at'] w fun e w' => e = .returned (.tuple #[spz, .int .i64 5]) ∧ PP w0 w' B M A na c now puts L nr v Lr u Lu := by
  obtain ⟨S, k1, k2, k3, k4, k5⟩ := h.sep
  exact (put_twice k1 h0 h1 hin at').mono fun _ _ ⟨he, hc⟩ => ⟨he, h.quiet hc⟩
theorem PP.full (h : PP w0 w B M A na c now puts L nr v Lr u Lu) (hm : now = 18446744073709551615) {id : Int} (h0 : 0 ≤ id) (h1 : id < 256) (hno : ∀ t ∈ L, t.id ≠ id) (at' : Int) :
    Calls Tryz.prog 6 #[.pointer (some ⟨B, 0, none⟩), .int .i64 id, .int .u64 at'] w fun e w' => e = .returned (.tuple #[spz, .int .i64 12]) ∧ PP w0 w' B M A na c now puts L nr v Lr u Lu := by
  subst hm
  obtain ⟨S, k1, k2, k3, k4, k5⟩ := h.sep
  exact (put_max k1 h0 h1 hno at').mono fun _ _ ⟨he, hc⟩ => ⟨he, h.quiet hc⟩
/-- To, behind the answer's own: its list, and the one that comes out of it, stay. -/
theorem PP.to {wa : World} (h : PP w0 wa B M A na c now puts L nr v Lr u Lu) (hT : Mk.Tab w0) (hc : Ch [] wa w) {r2 : Value} {n : Nat} {xs : List Value} (hr2 : w.ownsRow wa.heap.size 3 1 r2 n xs) {u' : Value} {Lu' : List Tm} (hru : RT w w0.heap.size u' Lu') (hv : u' = v ∨ ∀ g, u'.ownBlock = some g → wa.heap.size ≤ g) {x : Int} (hx : Wd x) :
    Calls Tryz.prog 12 #[.pointer (some ⟨B, 0, none⟩), .int .u64 x] w fun e w' =>
      ∃ r, e = .returned r ∧ w'.ownsRow w.heap.size 3 1 r (outs L x).length ((outs L x).map iv) ∧ PP w0 w' B M A na c (max now x) puts (later L x) nr v Lr u' Lu' ∧ w'.ownsRow wa.heap.size 3 1 r2 n xs := by
  have hp := h.pend hc hru hv
  obtain ⟨S, k1, k2, k3, k4, k5⟩ := h.sep
  have j1 := k1.quiet hc
  have j4 : ∀ g, u'.ownBlock = some g → ¬ S g := fun g hg e => by
    rcases hv with rfl | hv
    · exact k3 g hg e
    · have := hv g hg
      have := k1.hi g e
      omega
  have j5 : ∀ g, r2.ownBlock = some g → ¬ S g := fun g hg e => by have := (hr2.lt g hg).1; have := k1.hi g e; omega
  rcases Int.lt_or_le now x with hlt | hle
  · refine (to_any j1 (hp.tab hT) hx hlt).mono fun _ _ ⟨r, he, hr, hw', hc'⟩ => ⟨r, he, hr, ?_, own_chP hr2 hc' j5⟩
    rw [show max now x = x by omega]
    exact hp.stepS j1 k2 k3 j4 k5 (hw'.moreS hp.bel.size) hc'
  · refine (to_less j1 hle).mono fun _ _ ⟨he, hc'⟩ => ⟨_, he, ?_, ?_, own_ch hr2 hc' (by simp)⟩
    · rw [outs_nil (fun t ht => by have := (k1.wi.fits t ht).ahead; omega)]
      exact World.ownsRow_nil _ _ _ _
    · rw [later_all (fun t ht => by have := (k1.wi.fits t ht).ahead; omega), show max now x = now by omega]
      exact hp.quiet hc'
/-- Del of numbers that lie in a block that was laid just now. -/
theorem PP.del2 (h : PP w0 w B M A na c now puts L nr v Lr u Lu) (o : Obj) {cap : Nat} {zs : List Int} (hz : Mk.IntsAt (w.alloc o) (some ⟨w.heap.size, 0, none⟩) zs) (hl : zs.length ≤ 9223372036854775807) (hwf : ∀ x ∈ zs, wf64 x) :
    Calls Tryz.prog 9 #[.pointer (some ⟨B, 0, none⟩), .slice (some ⟨w.heap.size, 0, none⟩) zs.length cap] (w.alloc o) fun e w' => e = .returned (.int .i64 ((L.length - (delL L zs).length : Nat) : Int)) ∧ PP w0 w' B M A na c now puts (delL L zs) nr v Lr u Lu := by
  have hq := h.quiet ((Ch.refl [] w).alloc o)
  obtain ⟨S, k1, k2, k3, k4, k5⟩ := h.sep
  have j1 := k1.quiet ((Ch.refl [] w).alloc o)
  exact (del_any j1 hz hl hwf (fun b o e hS => by cases e; have := k1.hi _ hS; omega)).mono fun _ _ ⟨he, hw', hc⟩ => ⟨he, hq.stepS j1 k2 k3 k4 k5 (hw'.moreS hq.bel.size) hc⟩
theorem PP.next (h : PP w0 w B M A na c now puts L nr v Lr u Lu) (hT : Mk.Tab w0) :
    Calls Tryz.prog 13 #[.pointer (some ⟨B, 0, none⟩)] w fun e w' => e = .returned (.tuple #[.int .u64 (nextD (DL L)), .bool (nextO (DL L))]) ∧ Ch [] w w' := by
  obtain ⟨S, k1, _⟩ := h.sep
  exact wnext_any k1 (h.tab hT)
theorem PP.find (h : PP w0 w B M A na c now puts L nr v Lr u Lu) {k : Int} (hk : wf64 k) :
    Calls Tryz.prog 15 #[.pointer (some ⟨B, 0, none⟩), .int .i64 k] w fun e w' => e = .returned (.tuple #[spV (findS L k), .bool (lookB L k)]) ∧ Ch [] w w' := by
  obtain ⟨S, k1, _⟩ := h.sep
  exact find_any k1 hk
theorem PP.nowOf (h : PP w0 w B M A na c now puts L nr v Lr u Lu) : Calls Tryz.prog 17 #[.pointer (some ⟨B, 0, none⟩)] w fun e w' => e = .returned (.int .u64 now) ∧ w' = w := by
  obtain ⟨S, k1, _⟩ := h.sep
  exact now_any k1
theorem PP.lenOf (h : PP w0 w B M A na c now puts L nr v Lr u Lu) : Calls Tryz.prog 18 #[.pointer (some ⟨B, 0, none⟩)] w fun e w' => e = .returned (.int .i64 (L.length : Int)) ∧ w' = w := by
  obtain ⟨S, k1, _⟩ := h.sep
  exact len_any k1
theorem PP.ids (h : PP w0 w B M A na c now puts L nr v Lr u Lu) : Calls Tryz.prog 19 #[.pointer (some ⟨B, 0, none⟩)] w fun e w' => ∃ r, e = .returned r ∧ w'.ownsRow w.heap.size 3 1 r L.length ((idsL L).map iv) ∧ Below w.heap.size w w' := by
  obtain ⟨S, k1, _⟩ := h.sep
  exact ids_any k1
/-- Another act, in a new block. -/
theorem PP.newAct (h : PP w0 w B M A na c now puts L nr v Lr u Lu) (x y z : Value) (t : TypeId) : PP w0 (w.alloc (.cells #[x, y, z] t)) B M w.heap.size 3 (fun o => if o = 0 then x else if o = 1 then y else z) now puts L nr v Lr u Lu := by
  have hq := h.quiet ((Ch.refl [] w).alloc (.cells #[x, y, z] t))
  obtain ⟨S, h1, h2, h3, h4, h5⟩ := h.sep
  have hM := h.box.lt
  refine ⟨⟨S, h1.quiet ((Ch.refl [] w).alloc _), h2, h3, h4, .inr (fun e => by have := h1.hi _ e; omega)⟩, hq.box, hq.rowv, hq.rowu, h.lo, h.nv, h.nu, hq.bel, fun o ho => ?_, .inr (by omega)⟩
  rw [World.cell?_alloc_at _ _ _ _ rfl]
  rcases (show o = 0 ∨ o = 1 ∨ o = 2 by omega) with rfl | rfl | rfl <;> simp
end
end Go.Proofs.YtcjemidflbfljaaGreatDoor

/-
  Lists in memory: their blocks, the ring of each CPU; has, Of.
  Add.
  give, Close.
  Close.
  The fronts of a ring, that are done: the iterator.
-/
import Derived.Maps.RangeWalk
import Derived.Test.YtjoaigadlpndcaaGreatDoorMgG
import Derived.WalkMore
namespace Go.Proofs.YtjoaigadlpndcaaGreatDoor
open Go.RowKit Go.Shelf
open rC (Th RL flat tv)

attribute [local go_sem] Oper.semAt_some

/-- Lists that lie in the blocks from base up to top: A (their parts), G (the rows), for each CPU i the ring in R i and Q i, which holds f i. -/
structure CL (w : World) (base top A G n : Nat) (last : Int) (R Q : Nat → Nat) (f : Nat → List Th) : Prop where
  n1 : 1 ≤ n
  n64 : n ≤ 64
  c0 : w.cell? ⟨A, 0, none⟩ = some (.slice (some ⟨G, 0, none⟩) n n)
  c1 : w.cell? ⟨A, 1, none⟩ = some (.int .i64 last)
  f1 : w.frozen? ⟨A, 1, none⟩ = false
  row : ∀ i, i < n → w.cell? ⟨G, i, none⟩ = some (.pointer (some ⟨R i, 0, none⟩))
  ring : ∀ i, i < n → RL w (R i) (Q i) 64 (f i)
  gl : base ≤ G
  ga : G < A
  aq : ∀ i, i < n → A < Q i
  qr : ∀ i, i < n → Q i < R i
  mono : ∀ i j, i < j → j < n → R i < Q j
  rt : ∀ i, i < n → R i < top
  hi : top ≤ w.heap.size

def updF (f : Nat → List Th) (c : Nat) (l : List Th) : Nat → List Th := fun i => if i = c then l else f i
theorem updF_same (f : Nat → List Th) (c : Nat) (l : List Th) : updF f c l c = l := if_pos rfl
theorem updF_other (f : Nat → List Th) {c i : Nat} (h : i ≠ c) (l : List Th) : updF f c l i = f i := if_neg h
theorem updF_twice (f : Nat → List Th) (c : Nat) (l m : List Th) : updF (updF f c l) c m = updF f c m := by
  funext i
  unfold updF
  split <;> rfl
theorem updF_id (f : Nat → List Th) (c : Nat) : updF f c (f c) = f := by
  funext i
  unfold updF
  split
  · rename_i e; rw [e]
  · rfl

section
variable {w w' : World} {base top A G n : Nat} {last : Int} {R Q : Nat → Nat} {f : Nat → List Th}
/-- The lists' own blocks. -/
abbrev Own (base top : Nat) : Nat → Prop := fun k => base ≤ k ∧ k < top
theorem CL.inA (h : CL w base top A G n last R Q f) : Own base top A := by
  have h1 := h.n1
  have := h.aq 0 (by omega)
  have := h.qr 0 (by omega)
  have := h.rt 0 (by omega)
  have := h.gl
  have := h.ga
  exact ⟨by omega, by omega⟩
theorem CL.inG (h : CL w base top A G n last R Q f) : Own base top G := by
  have h1 := h.inA.2
  have := h.gl
  have := h.ga
  exact ⟨by omega, by omega⟩
theorem CL.inQ (h : CL w base top A G n last R Q f) {i : Nat} (hi : i < n) : Own base top (Q i) := by
  have := h.aq i hi
  have := h.qr i hi
  have := h.rt i hi
  have := h.gl
  have := h.ga
  exact ⟨by omega, by omega⟩
theorem CL.inR (h : CL w base top A G n last R Q f) {i : Nat} (hi : i < n) : Own base top (R i) := by
  have := (h.inQ hi).1
  have := h.qr i hi
  have := h.rt i hi
  exact ⟨by omega, by omega⟩
theorem CL.same (h : CL w base top A G n last R Q f) (hs : ∀ k, Own base top k → w'.heap[k]? = w.heap[k]?) (hsz : top ≤ w'.heap.size) : CL w' base top A G n last R Q f :=
  have c : ∀ k o, Own base top k → w'.cell? ⟨k, o, none⟩ = w.cell? ⟨k, o, none⟩ := fun k o hk => World.cell?_of_block (a := ⟨k, o, none⟩) (hs k hk)
  ⟨h.n1, h.n64, (c _ _ h.inA).trans h.c0, (c _ _ h.inA).trans h.c1, (World.frozen?_of_block (a := ⟨A, 1, none⟩) (hs A h.inA)).trans h.f1,
    fun i hi => (c _ _ h.inG).trans (h.row i hi), fun i hi => (h.ring i hi).same (hs _ (h.inR hi)) (hs _ (h.inQ hi)), h.gl, h.ga, h.aq, h.qr, h.mono, h.rt, hsz⟩
theorem CL.chP {T : Nat → Prop} (h : CL w base top A G n last R Q f) (hc : ChP T w w') (hT : ∀ k, T k → ¬ Own base top k) : CL w' base top A G n last R Q f :=
  h.same (fun k hk => hc.block k (Nat.lt_of_lt_of_le hk.2 h.hi) (fun ht => hT k ht hk)) (Nat.le_trans h.hi hc.size)
theorem CL.quiet (h : CL w base top A G n last R Q f) (hc : Ch [] w w') : CL w' base top A G n last R Q f := h.chP (T := fun _ => False) (.quiet hc) (fun _ e => e.elim)
theorem CL.below (h : CL w base top A G n last R Q f) (hc : Below w.heap.size w w') : CL w' base top A G n last R Q f := h.quiet (.of_below hc)
theorem CL.keep {S : Nat → Prop} (h : CL w base top A G n last R Q f) (hk : Keep S w w') (hS : ∀ k, Own base top k → S k) (hsz : top ≤ w'.heap.size) : CL w' base top A G n last R Q f :=
  ⟨h.n1, h.n64, hk.cell (hS _ h.inA) h.c0, hk.cell (hS _ h.inA) h.c1, (World.frozen?_of_block (a := ⟨A, 1, none⟩) (hk.same (hS _ h.inA) h.c0)).trans h.f1,
    fun i hi => hk.cell (hS _ h.inG) (h.row i hi), fun i hi => (h.ring i hi).keep hk (hS _ (h.inR hi)) (hS _ (h.inQ hi)), h.gl, h.ga, h.aq, h.qr, h.mono, h.rt, hsz⟩
/-- One CPU's ring turned. -/
theorem CL.step {c : Nat} (h : CL w base top A G n last R Q f) (hc : c < n) {l : List Th} (hr : RL w' (R c) (Q c) 64 l) (hch : Ch [R c, Q c] w w') : CL w' base top A G n last R Q (updF f c l) := by
  have hQ := h.aq c hc
  have hR := h.qr c hc
  have hga := h.ga
  have nA : A ∉ [R c, Q c] := by simp; omega
  have nG : G ∉ [R c, Q c] := by simp; omega
  have lA := Nat.lt_of_lt_of_le h.inA.2 h.hi
  have lG := Nat.lt_of_lt_of_le h.inG.2 h.hi
  refine ⟨h.n1, h.n64, (hch.cell (p := ⟨A, 0, none⟩) lA nA).trans h.c0, (hch.cell (p := ⟨A, 1, none⟩) lA nA).trans h.c1, (hch.frozen (p := ⟨A, 1, none⟩) lA nA).trans h.f1,
    fun i hi => (hch.cell (p := ⟨G, i, none⟩) lG nG).trans (h.row i hi), fun i hi => ?_, h.gl, h.ga, h.aq, h.qr, h.mono, h.rt, Nat.le_trans h.hi hch.size⟩
  by_cases e : i = c
  · subst e
    rw [updF_same]
    exact hr
  · rw [updF_other f e]
    have h1 := h.qr i hi
    have h2 : R i ∉ [R c, Q c] ∧ Q i ∉ [R c, Q c] := by
      rcases Nat.lt_or_ge i c with h3 | h3
      · have := h.mono i c h3 hc
        simp; omega
      · have := h.mono c i (by omega) hi
        simp; omega
    exact (h.ring i hi).ch hch h2.1 h2.2
/-- What a ring's call turned is the lists' own. -/
theorem CL.own {c : Nat} (h : CL w base top A G n last R Q f) (hc : c < n) {a b : World} (hch : Ch [R c, Q c] a b) : ChP (Own base top) a b :=
  .of hch (fun k hk => by
    simp at hk
    rcases hk with rfl | rfl
    · exact h.inR hc
    · exact h.inQ hc)

theorem has_in (h : CL w base top A G n last R Q f) {c : Nat} (hc : c < n) :
    Calls Tryz.prog 58 #[.pointer (some ⟨A, 0, none⟩), .int .i64 (c : Int)] w fun e w' => e = .returned (.bool true) ∧ w = w' := by
  have c0 := h.c0
  have hlt : (c : Int) < (n : Int) := by omega
  have h0 : (0 : Int) ≤ (c : Int) := by omega
  clear h hc
  go_enter Tryz.func58, Tryz.ntmps58
  go_wp2
  go_ret
  exact ⟨rfl, rfl⟩
theorem has_out (h : CL w base top A G n last R Q f) {i : Int} (hi : i < 0 ∨ (n : Int) ≤ i) :
    Calls Tryz.prog 58 #[.pointer (some ⟨A, 0, none⟩), .int .i64 i] w fun e w' => e = .returned (.bool false) ∧ w = w' := by
  have c0 := h.c0
  clear h
  rcases Int.lt_or_le i 0 with h0 | h0
  · have hge : decide (0 ≤ i) = false := decide_eq_false (by omega)
    clear hi
    go_enter Tryz.func58, Tryz.ntmps58
    go_wp2
    go_ret
    exact ⟨rfl, rfl⟩
  · have hlt : decide (i < (n : Int)) = false := decide_eq_false (by omega)
    clear hi
    go_enter Tryz.func58, Tryz.ntmps58
    go_wp2
    go_ret
    exact ⟨rfl, rfl⟩
theorem has_nil (i : Int) (w : World) :
    Calls Tryz.prog 58 #[.pointer none, .int .i64 i] w fun e w' => e = .returned (.bool false) ∧ w = w' := by
  go_enter Tryz.func58, Tryz.ntmps58
  go_wp2
  go_ret
  exact ⟨rfl, rfl⟩

end
end Go.Proofs.YtjoaigadlpndcaaGreatDoor
namespace Go.Proofs.YtjoaigadlpndcaaGreatDoor
open Go.RowKit Go.Shelf
open rC (Th RL flat tv)

attribute [local go_sem] Oper.semAt_some

/-- A slice of numbers. -/
def IntsAt (w : World) (a : Option Addr) (zs : List Int) : Prop := zs = [] ∨ ∃ b off, a = some ⟨b, off, none⟩ ∧ ∀ i, i < zs.length → w.cell? ⟨b, off + i, none⟩ = some (.int .i64 (zs[i]?.getD 0))
/-- A callback that has no generation yet. -/
def fresh (z : Int) : Th := (z, 0)
theorem fresh_take (l : List Th) (zs : List Int) (k : Nat) (h : l.length + k ≤ 64) (hz : l.length + k = 64 ∨ zs.length ≤ k) : (l ++ zs.map fresh).take 64 = l ++ (zs.take k).map fresh := by
  rw [List.take_append, List.take_of_length_le (by omega), ← List.map_take]
  rcases hz with hz | hz
  · rw [show 64 - l.length = k by omega]
  · rw [List.take_of_length_le (by omega), List.take_of_length_le hz]

section
variable {w : World} {base top A G n : Nat} {last : Int} {R Q : Nat → Nat} {f : Nat → List Th}
set_option maxHeartbeats 1000000 in
theorem add_in (h : CL w base top A G n last R Q f) {c : Nat} (hc : c < n) {a : Option Addr} {cap : Nat} {zs : List Int} (hz : IntsAt w a zs) (hl : zs.length ≤ cap) (_ : cap ≤ 9223372036854775807) (hb : zs ≠ [] → ∀ x, a = some x → ¬ Own base top x.block) :
    Calls Tryz.prog 38 #[.pointer (some ⟨A, 0, none⟩), .int .i64 (c : Int), .slice a zs.length cap] w fun e w' =>
      e = .returned (.int .i64 (if 64 < (f c).length + zs.length then 3 else 0)) ∧ CL w' base top A G n last R Q (updF f c ((f c ++ zs.map fresh).take 64)) ∧ ChP (Own base top) w w' := by
  have HH := Lib.hid (has_in h hc)
  have HC := Lib.hid h
  have HZ := Lib.hid hz
  have HB := Lib.hid hb
  have hle := (h.ring c hc).le.1
  have hlt : (c : Int) < (n : Int) := by omega
  have HD := Lib.hid hc
  obtain ⟨m, hm⟩ : ∃ m, m = zs.length := ⟨_, rfl⟩
  have HM := Lib.hid hm
  rw [← hm] at hl ⊢
  obtain ⟨E, hE⟩ : ∃ E : Int, E = if 64 < (f c).length + m then 3 else 0 := ⟨_, rfl⟩
  have HE := Lib.hid hE
  rw [← hE]
  clear h hc hz hb hm hE
  go_enter Tryz.func38, Tryz.ntmps38
  go_wp2_with (first | (go_at_call 58; with_reducible refine HH.out.mono ?_; rintro e w' ⟨rfl, rfl⟩) | fail)
  go_loopw [17] (fun r wr => ∃ k : Nat, k ≤ m ∧ (f c).length + k ≤ 64 ∧ r = .int .i64 (k : Int) ∧ CL wr base top A G n last R Q (updF f c (f c ++ (zs.take k).map fresh)) ∧ ChP (Own base top) w wr) (fun r _ => m - (intOf r).toNat)
  case atStart => exact ⟨0, Nat.zero_le _, by omega, rfl, by simpa [updF_id] using HC.out, ChP.refl _ _⟩
  case round =>
    obtain ⟨k, hk, hk64, rfl, hCk, hPk⟩ := hrel
    have HCk := Lib.hid hCk
    have HPk := Lib.hid hPk
    by_cases hkm : k < m
    · have hkz : k < zs.length := by rw [← HM.out]; exact hkm
      obtain ⟨z, hzk⟩ : ∃ z, z = zs[k]?.getD 0 := ⟨_, rfl⟩
      obtain ⟨b, off, rfl, hcell⟩ : ∃ b off, a = some ⟨b, off, none⟩ ∧ wr.cell? ⟨b, off + k, none⟩ = some (.int .i64 z) := by
        rcases HZ.out with e | ⟨b, off, e, hcs⟩
        · rw [e] at hkz; simp at hkz
        · have h1 := hcs k hkz
          rw [← hzk] at h1
          refine ⟨b, off, e, (hPk.cell (p := ⟨b, off + k, none⟩) (cell_lt h1) (show ¬ Own base top b from HB.out (fun e => by rw [e] at hkz; simp at hkz) ⟨b, off, none⟩ e)).trans h1⟩
      have c0 := hCk.c0
      have cr := hCk.row c HD.out
      have hring := hCk.ring c HD.out
      rw [updF_same] at hring
      have hlen : (f c ++ (zs.take k).map fresh).length = (f c).length + k := by simp; omega
      have HT := Lib.hid (show f c ++ (zs.take (k + 1)).map fresh = f c ++ (zs.take k).map fresh ++ [fresh z] by
        rw [List.take_succ_eq_append_getElem hkz, List.map_append, ← List.append_assoc]; simp only [List.map_cons, List.map_nil]; rw [hzk, List.getElem?_eq_getElem hkz]; rfl)
      have HR := Lib.hid hring
      have HL := Lib.hid hlen
      obtain ⟨ys, hys⟩ : ∃ ys, ys = f c ++ (zs.take k).map fresh := ⟨_, rfl⟩
      have HY := Lib.hid hys
      rw [← hys] at HR HL HT HCk
      have hRl := hring.lt
      have hcap' : (k : Int) < (m : Int) := by omega
      clear hCk hPk hring hlen hzk hys hkz
      by_cases hful : (f c).length + k < 64
      · have HP := Lib.hid (rC.push_l1 (HR.out.ch ((Ch.refl [] wr).alloc (.cells #[.int .i64 z, .int .i64 0] 102)) (by simp) (by simp)) (by rw [HL.out]; exact hful) wr.heap.size (fresh z) (by omega) (by omega) (Box2.new wr (.int .i64 z) (.int .i64 0) 102))
        go_wp2_with fail
        with_reducible refine HP.out.mono ?_
        rintro e w3 ⟨rfl, hr3, hc3⟩
        have HR3 := Lib.hid hr3
        have HC3 := Lib.hid hc3
        clear hr3 hc3
        go_frame
        go_wp2
        go_roundw
        case rel =>
          have hch := ((Ch.refl [R c, Q c] wr).alloc (.cells #[.int .i64 z, .int .i64 0] 102)).trans HC3.out
          refine ⟨k + 1, by omega, by omega, by go_num, ?_, HPk.out.trans (HC.out.own HD.out hch)⟩
          rw [HT.out, ← updF_twice f c ys]
          exact HCk.out.step HD.out HR3.out hch
        case measure => simp [intOf]; omega
      · have HP := Lib.hid (rC.push_l0 (HR.out.ch ((Ch.refl [] wr).alloc (.cells #[.int .i64 z, .int .i64 0] 102)) (by simp) (by simp)) (by rw [HL.out]; omega) wr.heap.size)
        go_wp2_with fail
        with_reducible refine HP.out.mono ?_
        rintro e w3 ⟨rfl, rfl⟩
        go_frame
        go_wp2
        go_ret
        have e3 : E = 3 := by rw [HE.out, if_pos (by omega)]
        refine ⟨by rw [e3]; rfl, ?_, HPk.out.alloc _⟩
        rw [fresh_take (f c) zs k (by omega) (.inl (by omega)), ← HY.out]
        exact HCk.out.quiet ((Ch.refl [] wr).alloc _)
    · have hkm' : ¬ (k : Int) < (m : Int) := by omega
      clear hCk hPk
      go_wp2
      go_ret
      obtain rfl : k = m := by omega
      have e3 : E = 0 := by rw [HE.out, if_neg (by omega)]
      refine ⟨by rw [e3]; rfl, ?_, HPk.out⟩
      rw [fresh_take (f c) zs k (by omega) (.inr (by rw [← HM.out]; exact Nat.le_refl _))]
      exact HCk.out
theorem add_out (h : CL w base top A G n last R Q f) {i : Int} (hi : i < 0 ∨ (n : Int) ≤ i) (v : Value) :
    Calls Tryz.prog 38 #[.pointer (some ⟨A, 0, none⟩), .int .i64 i, v] w fun e w' => e = .returned (.int .i64 2) ∧ w = w' := by
  have HH := Lib.hid (has_out h hi)
  clear h hi
  go_enter Tryz.func38, Tryz.ntmps38
  go_wp2_with (with_reducible refine HH.out.mono ?_; rintro e w' ⟨rfl, rfl⟩)
  go_ret
  exact ⟨rfl, rfl⟩
theorem add_nil (i : Int) (v : Value) (w : World) :
    Calls Tryz.prog 38 #[.pointer none, .int .i64 i, v] w fun e w' => e = .returned (.int .i64 6) ∧ w = w' := by
  go_enter Tryz.func38, Tryz.ntmps38
  go_wp2
  go_ret
  exact ⟨rfl, rfl⟩
end
end Go.Proofs.YtjoaigadlpndcaaGreatDoor
namespace Go.Proofs.YtjoaigadlpndcaaGreatDoor
open Go.RowKit Go.Shelf
open rC (Th RL flat tv)

attribute [local go_sem] Oper.semAt_some

/-- A callback behind a closing. -/
def giveT (gen : Int) (x : Th) : Th := if x.2 = 0 then (x.1, gen) else x
/-- How many have no generation. -/
def zc (xs : List Th) : Nat := xs.countP fun x => decide (x.2 = 0)
theorem zc_snoc (xs : List Th) (x : Th) : zc (xs ++ [x]) = zc xs + if x.2 = 0 then 1 else 0 := by
  unfold zc
  rw [List.countP_append, List.countP_cons, List.countP_nil]
  simp
theorem zc_le (xs : List Th) : zc xs ≤ xs.length := List.countP_le_length

theorem to_any (x : Th) (w : World) :
    Calls Tryz.prog 85 #[tv x] w fun e w' => e = .returned (.bool (decide (x.2 = 0))) ∧ Ch [] w w' := by
  have hc := (Box2.new w (.int .i64 x.1) (.int .i64 x.2) 102).c1
  unfold tv
  go_enter Tryz.func85, Tryz.ntmps85
  go_wp2
  go_ret
  exact ⟨by rfl, (Ch.refl [] w).alloc _⟩

theorem drop_cons {xs : List Th} {k : Nat} (h : k < xs.length) : xs.drop k = xs[k]?.getD (0, 0) :: xs.drop (k + 1) := by
  rw [List.drop_eq_getElem_cons h]
  simp [h]
theorem take_snoc {xs : List Th} {k : Nat} (h : k < xs.length) : xs.take (k + 1) = xs.take k ++ [xs[k]?.getD (0, 0)] := by
  rw [List.take_succ_eq_append_getElem h]
  simp [h]

theorem push_new {W : World} {R Q : Nat} {ys : List Th} (h : RL W R Q 64 ys) (hl : ys.length < 64) (p q : Int) {s : Nat} (hs : s = W.heap.size) :
    Calls Tryz.prog 59 #[.pointer (some ⟨R, 0, none⟩), .slice (some ⟨s, 0, none⟩) 1 1] (W.alloc (.cells #[.int .i64 p, .int .i64 q] 102)) fun e w' =>
      e = .returned (.int .i64 1) ∧ RL w' R Q 64 (ys ++ [(p, q)]) ∧ Ch [R, Q] W w' := by
  subst hs
  have hRl := h.lt
  refine (rC.push_l1 (h.ch ((Ch.refl [] W).alloc (.cells #[.int .i64 p, .int .i64 q] 102)) (by simp) (by simp)) hl W.heap.size (p, q) (by omega) (by omega) (Box2.new W (.int .i64 p) (.int .i64 q) 102)).mono ?_
  rintro e w' ⟨rfl, hr, hc⟩
  exact ⟨rfl, hr, ((Ch.refl [R, Q] W).alloc _).trans hc⟩

set_option maxHeartbeats 1000000 in
theorem give_any {w : World} {R Q : Nat} {xs : List Th} (h : RL w R Q 64 xs) (gen : Int) :
    Calls Tryz.prog 84 #[.pointer (some ⟨R, 0, none⟩), .int .i64 gen, .func (.func 85) #[] #[]] w fun e w' =>
      e = .returned (.int .i64 (zc xs : Int)) ∧ RL w' R Q 64 (xs.map (giveT gen)) ∧ Ch [R, Q] w w' := by
  have hle := h.le.1
  have HLen := Lib.hid (rC.len_l h)
  have HR := Lib.hid h
  obtain ⟨m, hm⟩ : ∃ m, m = xs.length := ⟨_, rfl⟩
  have HM := Lib.hid hm
  rw [← hm] at HLen hle
  clear h hm
  go_enter Tryz.func84, Tryz.ntmps84
  go_wp2_with (first | (go_at_call 67; with_reducible refine HLen.out.mono ?_; rintro e w' ⟨rfl, rfl⟩) | fail)
  go_loopw [12, 7] (fun r q wr => ∃ k : Nat, k ≤ m ∧ r = .int .i64 (k : Int) ∧ q = .int .i64 (zc (xs.take k) : Int) ∧ RL wr R Q 64 (xs.drop k ++ (xs.take k).map (giveT gen)) ∧ Ch [R, Q] w wr) (fun r _ _ => m - (intOf r).toNat)
  case atStart => exact ⟨0, Nat.zero_le _, rfl, rfl, by simpa using HR.out, Ch.refl _ _⟩
  case round =>
    obtain ⟨k, hk, rfl, rfl, hRk, hPk⟩ := hrel
    have HPk := Lib.hid hPk
    by_cases hkm : k < m
    · have hkz : k < xs.length := by rw [← HM.out]; exact hkm
      obtain ⟨x, hx⟩ : ∃ x, x = xs[k]?.getD (0, 0) := ⟨_, rfl⟩
      have HT := Lib.hid (show xs.take (k + 1) = xs.take k ++ [x] by rw [take_snoc hkz, hx])
      rw [drop_cons hkz, ← hx, List.cons_append] at hRk
      have hRl := hRk.lt
      have hz := zc_le (xs.take k)
      simp at hz
      obtain ⟨ys, hys⟩ : ∃ ys, ys = xs.drop (k + 1) ++ (xs.take k).map (giveT gen) := ⟨_, rfl⟩
      have HY := Lib.hid (show ys.length < 64 ∧ ys ++ [giveT gen x] = xs.drop (k + 1) ++ (xs.take (k + 1)).map (giveT gen) from by
        refine ⟨?_, ?_⟩
        · have := HM.out; rw [hys]; simp; omega
        · rw [HT.out, hys]; simp)
      rw [← hys] at hRk
      have HP := Lib.hid (rC.pop_l hRk)
      obtain ⟨q, hq⟩ : ∃ q, q = zc (xs.take k) := ⟨_, rfl⟩
      have HQ := Lib.hid (show zc (xs.take (k + 1)) = q + if x.2 = 0 then 1 else 0 by rw [HT.out, zc_snoc, hq])
      rw [← hq] at hz ⊢
      have hcap' : (k : Int) < (m : Int) := by omega
      have hw1 : IntKind.i64.wrap ((q : Int) + 1) = (q : Int) + 1 := IntWalk.i64_in _ (by omega)
      clear hRk hPk hx hys hkz hq
      go_wp2_with fail
      with_reducible refine HP.out.mono ?_
      rintro e w3 ⟨rfl, hr3, hc3⟩
      have hsz3 := hc3.size
      have HC3 := Lib.hid hc3
      have HR3 := Lib.hid hr3
      clear hr3 hc3
      go_frame
      go_wp2_with fail
      have hb := Box2.new w3 (.int .i64 x.1) (.int .i64 x.2) 102
      have hR4 := HR3.out.ch ((Ch.refl [] w3).alloc (.cells #[.int .i64 x.1, .int .i64 x.2] 102)) (by simp) (by simp)
      have hC4 := HC3.out.alloc (.cells #[.int .i64 x.1, .int .i64 x.2] 102)
      obtain ⟨b, hbe⟩ : ∃ b, b = w3.heap.size := ⟨_, rfl⟩
      rw [← hbe] at hb ⊢
      have hRb : wr.heap.size ≤ b := by omega
      clear hbe
      generalize w3.alloc (.cells #[.int .i64 x.1, .int .i64 x.2] 102) = w4 at *
      have hT := to_any x w4
      unfold tv at hT
      by_cases hx0 : x.2 = 0
      · have HG := Lib.hid (show giveT gen x = (x.1, gen) by unfold giveT; rw [if_pos hx0])
        have HZ := Lib.hid (show zc (xs.take (k + 1)) = q + 1 by rw [HQ.out, if_pos hx0])
        rw [decide_eq_true hx0] at hT
        with_reducible refine hT.mono ?_
        rintro e w5 ⟨rfl, hc5⟩
        have HB5 := Lib.hid (hb.ch hc5 (by simp))
        have HR5 := Lib.hid (hR4.ch hc5 (by simp) (by simp))
        have HC5 := Lib.hid (hC4.trans (hc5.mono (T := [R, Q]) (by simp)))
        have k0 := HB5.out.c0
        have k1 := HB5.out.c1
        have k2 := HB5.out.f1
        clear hb hR4 hC4 hT hc5 HR3 HC3
        have hbR : R ∉ [b] ∧ Q ∉ [b] := by simp; omega
        have HbR := Lib.hid hbR
        clear hbR
        have hset : Ch [b] w5 (w5.setCell ⟨b, 1, none⟩ (.int .i64 gen)) := (Ch.refl [b] w5).setCell (p := ⟨b, 1, none⟩) (by simp) _
        have HP := Lib.hid (push_new (HR5.out.ch hset HbR.out.1 HbR.out.2) HY.out.1 x.1 gen (s := w5.heap.size) (by simp [World.setCell]))
        clear hx0 hset
        go_frame
        go_wp2_with fail
        with_reducible refine HP.out.mono ?_
        rintro e w7 ⟨rfl, hr7, hc7⟩
        have HR7 := Lib.hid hr7
        have HC7 := Lib.hid hc7
        clear hr7 hc7
        go_frame
        go_wp2
        go_roundw
        case rel =>
          refine ⟨k + 1, by omega, by go_num, by rw [HZ.out]; rfl, ?_, HPk.out.trans ?_⟩
          · rw [← HY.out.2, HG.out]; exact HR7.out
          · have h9 : Ch [R, Q] wr (w5.setCell ⟨b, 1, none⟩ (.int .i64 gen)) := chSetNew HC5.out (p := ⟨b, 1, none⟩) hRb _
            exact h9.trans HC7.out
        case measure => simp [intOf]; omega
      · have HG := Lib.hid (show giveT gen x = (x.1, x.2) by unfold giveT; rw [if_neg hx0])
        have HZ := Lib.hid (show zc (xs.take (k + 1)) = q by rw [HQ.out, if_neg hx0, Nat.add_zero])
        rw [decide_eq_false hx0] at hT
        with_reducible refine hT.mono ?_
        rintro e w5 ⟨rfl, hc5⟩
        have HB5 := Lib.hid (hb.ch hc5 (by simp))
        have HR5 := Lib.hid (hR4.ch hc5 (by simp) (by simp))
        have HC5 := Lib.hid (hC4.trans (hc5.mono (T := [R, Q]) (by simp)))
        have k0 := HB5.out.c0
        have k1 := HB5.out.c1
        have k2 := HB5.out.f1
        clear hb hR4 hC4 hT hc5 HR3 HC3
        have hbR : R ∉ [b] ∧ Q ∉ [b] := by simp; omega
        have HbR := Lib.hid hbR
        clear hbR
        have HP := Lib.hid (push_new HR5.out HY.out.1 x.1 x.2 rfl)
        clear hx0
        go_frame
        go_wp2_with fail
        with_reducible refine HP.out.mono ?_
        rintro e w7 ⟨rfl, hr7, hc7⟩
        have HR7 := Lib.hid hr7
        have HC7 := Lib.hid hc7
        clear hr7 hc7
        go_frame
        go_wp2
        go_roundw
        case rel =>
          refine ⟨k + 1, by omega, by go_num, by rw [HZ.out], ?_, HPk.out.trans (HC5.out.trans HC7.out)⟩
          rw [← HY.out.2, HG.out]; exact HR7.out
        case measure => simp [intOf]; omega
    · have hkm' : ¬ (k : Int) < (m : Int) := by omega
      clear hPk
      go_wp2
      go_ret
      obtain rfl : k = m := by omega
      have e1 : xs.take k = xs := List.take_of_length_le (by rw [← HM.out]; exact Nat.le_refl _)
      have e2 : xs.drop k = [] := List.drop_eq_nil_of_le (by rw [← HM.out]; exact Nat.le_refl _)
      rw [e1, e2] at hRk
      rw [e1]
      exact ⟨rfl, hRk, HPk.out⟩
end Go.Proofs.YtjoaigadlpndcaaGreatDoor
namespace Go.Proofs.YtjoaigadlpndcaaGreatDoor
open Go.RowKit Go.Shelf
open rC (Th RL flat tv)

attribute [local go_sem] Oper.semAt_some

/-- The sum over the first CPUs. -/
def sumN (g : Nat → Nat) : Nat → Nat
  | 0 => 0
  | k + 1 => sumN g k + g k
theorem sumN_le {g : Nat → Nat} {b n : Nat} (h : ∀ i, i < n → g i ≤ b) : ∀ k, k ≤ n → sumN g k ≤ k * b
  | 0, _ => by simp [sumN]
  | k + 1, hk => by
    have h1 := sumN_le h k (by omega)
    have h2 := h k (by omega)
    simp only [sumN, Nat.succ_mul]
    omega
/-- What is left to do, CPU by CPU. -/
def partF (k : Nat) (g : List Th → List Th) (f : Nat → List Th) : Nat → List Th := fun i => if i < k then g (f i) else f i
theorem partF_zero (g : List Th → List Th) (f : Nat → List Th) : partF 0 g f = f := by
  funext i; unfold partF; rw [if_neg (by omega)]
theorem partF_at (k : Nat) (g : List Th → List Th) (f : Nat → List Th) : partF k g f k = f k := by unfold partF; rw [if_neg (by omega)]
theorem partF_succ (k : Nat) (g : List Th → List Th) (f : Nat → List Th) : partF (k + 1) g f = updF (partF k g f) k (g (f k)) := by
  funext i
  unfold partF updF
  by_cases e : i = k
  · subst e; rw [if_pos (by omega), if_pos rfl]
  · rw [if_neg e]
    by_cases h : i < k
    · rw [if_pos (by omega)]; show _ = if i < k then g (f i) else f i; rw [if_pos h]
    · rw [if_neg (by omega)]; show _ = if i < k then g (f i) else f i; rw [if_neg h]

section
variable {w : World} {base top A G n : Nat} {last : Int} {R Q : Nat → Nat} {f : Nat → List Th}
theorem CL.congr (h : CL w base top A G n last R Q f) {g : Nat → List Th} (hg : ∀ i, i < n → g i = f i) : CL w base top A G n last R Q g :=
  ⟨h.n1, h.n64, h.c0, h.c1, h.f1, h.row, fun i hi => by rw [hg i hi]; exact h.ring i hi, h.gl, h.ga, h.aq, h.qr, h.mono, h.rt, h.hi⟩
theorem CL.setLast (h : CL w base top A G n last R Q f) (gen : Int) : CL (w.setCell ⟨A, 1, none⟩ (.int .i64 gen)) base top A G n gen R Q f := by
  have hc : Ch [A] w (w.setCell ⟨A, 1, none⟩ (.int .i64 gen)) := (Ch.refl [A] w).setCell (p := ⟨A, 1, none⟩) (by simp) _
  have hga := h.ga
  refine ⟨h.n1, h.n64, setCell_other h.c0 (addr_ne_off (by decide)), setCell_same h.c1, by simpa using h.f1, fun i hi => setCell_other (h.row i hi) (addr_ne_block (by omega)), fun i hi => ?_, h.gl, h.ga, h.aq, h.qr, h.mono, h.rt, by simpa [World.setCell] using h.hi⟩
  have := h.aq i hi
  have := h.qr i hi
  exact (h.ring i hi).ch hc (by simp; omega) (by simp; omega)

set_option maxHeartbeats 1000000 in
theorem close_ok (h : CL w base top A G n last R Q f) {gen : Int} (h1 : 1 ≤ gen) (h2 : last ≤ gen) :
    Calls Tryz.prog 73 #[.pointer (some ⟨A, 0, none⟩), .int .i64 gen] w fun e w' =>
      e = .returned (.int .i64 (sumN (fun i => zc (f i)) n : Int)) ∧ CL w' base top A G n gen R Q (fun i => (f i).map (giveT gen)) ∧ ChP (Own base top) w w' := by
  have HC := Lib.hid h
  have HS := Lib.hid (sumN_le (g := fun i => zc (f i)) (b := 64) (n := n) (fun i hi => Nat.le_trans (zc_le _) (h.ring i hi).le.1))
  have hn64 := h.n64
  have c0 := h.c0
  have c1 := h.c1
  have f1 := h.f1
  have d1 : decide (gen < 1) = false := decide_eq_false (by omega)
  have d2 : decide (gen < last) = false := decide_eq_false (by omega)
  clear h h1 h2
  go_enter Tryz.func73, Tryz.ntmps73
  go_wp2
  have HC1 := Lib.hid (HC.out.setLast gen)
  have HP1 := Lib.hid (ChP.setCell (S := Own base top) (ChP.refl _ w) (p := ⟨A, 1, none⟩) (.inl HC.out.inA) (.int .i64 gen))
  clear c0 c1 f1 d1 d2
  generalize w.setCell ⟨A, 1, none⟩ (.int .i64 gen) = w1 at *
  go_loopw [31, 5] (fun r q wr => ∃ k : Nat, k ≤ n ∧ r = .int .i64 (k : Int) ∧ q = .int .i64 (sumN (fun i => zc (f i)) k : Int) ∧ CL wr base top A G n gen R Q (partF k (List.map (giveT gen)) f) ∧ ChP (Own base top) w wr) (fun r _ _ => n - (intOf r).toNat)
  case atStart => exact ⟨0, Nat.zero_le _, rfl, rfl, by rw [partF_zero]; exact HC1.out, HP1.out⟩
  case round =>
    obtain ⟨k, hk, rfl, rfl, hCk, hPk⟩ := hrel
    have HPk := Lib.hid hPk
    have HCk := Lib.hid hCk
    by_cases hkn : k < n
    · have cr := hCk.row k hkn
      have hring := hCk.ring k hkn
      rw [partF_at] at hring
      have HG := Lib.hid (give_any hring gen)
      have hs := HS.out k hk
      have hz := Nat.le_trans (zc_le (f k)) hring.le.1
      obtain ⟨q, hq⟩ : ∃ q, q = sumN (fun i => zc (f i)) k := ⟨_, rfl⟩
      obtain ⟨z, hzz⟩ : ∃ z, z = zc (f k) := ⟨_, rfl⟩
      have HQ := Lib.hid (show sumN (fun i => zc (f i)) (k + 1) = q + z by rw [hq, hzz]; rfl)
      rw [← hq] at hs ⊢
      rw [← hzz] at HG hz
      have hlt : (k : Int) < (n : Int) := by omega
      have hw1 : IntKind.i64.wrap ((q : Int) + (z : Int)) = (q : Int) + (z : Int) := IntWalk.i64_in _ (by omega)
      have HD := Lib.hid hkn
      clear hCk hPk hring hq hzz
      go_wp2_with fail
      with_reducible refine HG.out.mono ?_
      rintro e w3 ⟨rfl, hr3, hc3⟩
      have HR3 := Lib.hid hr3
      have HC3 := Lib.hid hc3
      clear hr3 hc3
      go_frame
      go_wp2
      go_roundw
      case rel =>
        refine ⟨k + 1, by omega, by go_num, by rw [HQ.out]; rfl, ?_, HPk.out.trans (HCk.out.own HD.out HC3.out)⟩
        rw [partF_succ]
        exact HCk.out.step HD.out HR3.out HC3.out
      case measure => simp [intOf]; omega
    · have hkn' : ¬ (k : Int) < (n : Int) := by omega
      clear hPk hCk
      go_wp2
      go_ret
      obtain rfl : k = n := by omega
      exact ⟨rfl, HCk.out.congr (fun i hi => by unfold partF; rw [if_pos hi]), HPk.out⟩
theorem close_no (h : CL w base top A G n last R Q f) {gen : Int} (h1 : gen < 1 ∨ gen < last) :
    Calls Tryz.prog 73 #[.pointer (some ⟨A, 0, none⟩), .int .i64 gen] w fun e w' => e = .returned (.int .i64 0) ∧ w = w' := by
  have c1 := h.c1
  clear h
  rcases Int.lt_or_le gen 1 with h0 | h0
  · have d1 : decide (gen < 1) = true := decide_eq_true h0
    clear h1
    go_enter Tryz.func73, Tryz.ntmps73
    go_wp2
    go_ret
    exact ⟨rfl, rfl⟩
  · have d1 : decide (gen < 1) = false := decide_eq_false (by omega)
    have d2 : decide (gen < last) = true := decide_eq_true (by omega)
    clear h1
    go_enter Tryz.func73, Tryz.ntmps73
    go_wp2
    go_ret
    exact ⟨rfl, rfl⟩
theorem close_nil (gen : Int) (w : World) :
    Calls Tryz.prog 73 #[.pointer none, .int .i64 gen] w fun e w' => e = .returned (.int .i64 0) ∧ w = w' := by
  go_enter Tryz.func73, Tryz.ntmps73
  go_wp2
  go_ret
  exact ⟨rfl, rfl⟩
end
end Go.Proofs.YtjoaigadlpndcaaGreatDoor
namespace Go.Proofs.YtjoaigadlpndcaaGreatDoor
open Go.RowKit Go.Shelf
open rC (Th RL flat tv)

attribute [local go_sem] Oper.semAt_some

/-- Is a callback of such a generation? -/
def up (gen : Int) (x : Th) : Bool := decide (1 ≤ x.2 ∧ x.2 ≤ gen)
/-- What the fronts turn between their yields: the ring's blocks. -/
def StF (R Q : Nat) (A B : World) : Prop := ChP (fun k => (k = R ∨ k = Q) ∧ ∃ o : Obj, A.heap[k]? = some o ∧ o.isCells = true) A B
theorem StF.objs {R Q : Nat} {A B : World} (h : StF R Q A B) (k : Nat) (o : Obj) (hk : A.heap[k]? = some o) (hc : o.isCells = false) : B.heap[k]? = some o :=
  (h.block k (Array.getElem?_eq_some_iff.1 hk).1 (fun e => by
    obtain ⟨_, o', h1, h2⟩ := e
    rw [hk] at h1; cases h1; rw [hc] at h2; cases h2)).trans hk
theorem StF.chP {R Q : Nat} {A B : World} (h : StF R Q A B) : ChP (fun k => k = R ∨ k = Q) A B := h.mono fun _ e => e.1
theorem StF.quiet {R Q : Nat} {A B : World} (h : Ch [] A B) : StF R Q A B := ChP.quiet h
theorem StF.ring {R Q room : Nat} {A B : World} {xs : List Th} (hr : RL A R Q room xs) (h : Ch [R, Q] A B) : StF R Q A B := by
  obtain ⟨first, L, hr, _⟩ := hr
  have h1 := cell_obj hr.c0
  have h2 := cell_obj (hr.cs 0 (by have := hr.r1; omega))
  refine ⟨h.os, h.tape, h.output, h.size, fun k hk hn => h.block k hk (fun hm => hn ?_)⟩
  simp at hm
  rcases hm with rfl | rfl
  · exact ⟨.inl rfl, h1⟩
  · exact ⟨.inr rfl, h2⟩

theorem fronts_in (n : Nat) (p : Option Addr) (gen : Int) (w : World) :
    CallsIn Fence.wide n Tryz.prog 82 #[.pointer p, .int .i64 gen] w fun e w' => e = .returned (.func (.func 93) #[] #[.pointer (some ⟨w.heap.size, 0, none⟩), .pointer (some ⟨w.heap.size + 1, 0, none⟩)]) ∧
      w' = (w.alloc (.cells #[.pointer p] 98)).alloc (.cells #[.int .i64 gen] 3) := by
  refine callsIn_of_wp Tryz.func82 rfl trivial ?_ rfl
  simp only [Tryz.ntmps82, List.size_toArray, List.length_cons, List.length_nil, Nat.reduceAdd, Nat.reduceSub, Array.replicate_succ, Array.replicate_zero, List.push_toArray, List.append_toArray, List.nil_append, List.cons_append]
  gi_wp2
  go_ret
  exact ⟨rfl, rfl⟩

theorem cons_up {gen : Int} {pre ys : List Th} {x : Th} (h : up gen x = true) : pre ++ (x :: ys).takeWhile (up gen) = (pre ++ [x]) ++ ys.takeWhile (up gen) := by
  rw [List.takeWhile_cons, h]; simp
theorem cons_no {gen : Int} {pre ys : List Th} {x : Th} (h : up gen x = false) : pre ++ (x :: ys).takeWhile (up gen) = pre ∧ (x :: ys).dropWhile (up gen) = x :: ys := by
  rw [List.takeWhile_cons, List.dropWhile_cons, h]; simp

/-- How many a ring holds, by its cell. -/
def heldOf (R : Nat) (w : World) : Nat := (intOf ((w.cell? ⟨R, 2, none⟩).getD undef)).toNat
theorem held_is {w : World} {R Q room : Nat} {xs : List Th} (h : RL w R Q room xs) : heldOf R w = xs.length := by
  obtain ⟨first, L, h, _⟩ := h
  unfold heldOf
  rw [h.c2]
  simp [intOf]

set_option maxRecDepth 100000 in
set_option maxHeartbeats 2000000 in
theorem fronts1_in (n : Nat) (l B1 B2 R Q : Nat) (gen : Int) (xs : List Th) (S : Nat → Prop) (s1 : S B1) (s2 : S B2) (sR : S R) (sQ : S Q) (hBR : B1 ≠ R ∧ B1 ≠ Q ∧ B2 ≠ R ∧ B2 ≠ Q) (J Jx : List Th → World → Prop) (hJ : ∀ s A A', J s A → StF R Q A A' → J s A')
    (hY : ∀ pre x W, J pre W → pre ++ [x] <+: xs.takeWhile (up gen) → YieldAt Fence.wide (n - 1) Tryz.prog l #[tv x] W fun e W' =>
      (e = .returned (.bool true) ∧ J (pre ++ [x]) W' ∧ Keep S W W') ∨ (e = .returned (.bool false) ∧ Jx (pre ++ [x]) W'))
    (W : World) (hb1 : W.cell? ⟨B1, 0, none⟩ = some (.pointer (some ⟨R, 0, none⟩))) (hb2 : W.cell? ⟨B2, 0, none⟩ = some (.int .i64 gen)) (hL : RL W R Q 64 xs) (h0 : J [] W) :
    CallsIn Fence.wide n Tryz.prog 93 #[.func (.yield l) #[] #[], .pointer (some ⟨B1, 0, none⟩), .pointer (some ⟨B2, 0, none⟩)] W fun e W' => (∃ v, e = .returned v) ∧
      ((∃ ys, (ys = xs.takeWhile (up gen) ∧ RL W' R Q 64 (xs.dropWhile (up gen))) ∧ J ys W') ∨ (∃ pre, pre <+: xs.takeWhile (up gen) ∧ Jx pre W')) := by
  have HY := Lib.hid hY
  have HL := Lib.hid hL
  have HJ := Lib.hid hJ
  have HJ0 := Lib.hid h0
  have HB1 := Lib.hid hb1
  have HB2 := Lib.hid hb2
  have HN := Lib.hid hBR
  clear hY hL hJ h0 hb1 hb2 hBR
  refine callsIn_of_wp Tryz.func93 rfl trivial ?_ rfl
  simp only [Tryz.ntmps93, List.size_toArray, List.length_cons, List.length_nil, Nat.reduceAdd, Nat.reduceSub, Array.replicate_succ, Array.replicate_zero, List.push_toArray, List.append_toArray, List.nil_append, List.cons_append]
  have hw : ∀ f, Fence.wide.fn f := fun _ => trivial
  have hd : Fence.wide.depth = none := rfl
  gi_wp2
  gi_loopw [5] (fun _ wr => ∃ pre ys : List Th, xs.takeWhile (up gen) = pre ++ ys.takeWhile (up gen) ∧ xs.dropWhile (up gen) = ys.dropWhile (up gen) ∧ J pre wr ∧ RL wr R Q 64 ys ∧ wr.cell? ⟨B1, 0, none⟩ = some (.pointer (some ⟨R, 0, none⟩)) ∧ wr.cell? ⟨B2, 0, none⟩ = some (.int .i64 gen))
    (fun _ wr => heldOf R wr)
  case atStart =>
    exact ⟨[], xs, rfl, rfl, HJ0.out, HL.out, HB1.out, HB2.out⟩
  case round =>
    obtain ⟨pre, ys, hT, hD, hJk, hRk, hc1, hc2⟩ := hrel
    have HT := Lib.hid hT
    have HD := Lib.hid hD
    have HJk := Lib.hid hJk
    have HRk := Lib.hid hRk
    have HC1 := Lib.hid hc1
    have HC2 := Lib.hid hc2
    have HH := Lib.hid (held_is hRk)
    have hl1 := cell_lt hc1
    have hl2 := cell_lt hc2
    simp only at hl1 hl2
    clear hT hD hJk hRk hc2
    cases ys with
    | nil =>
      have HA := Lib.hid (rC.at0_out HRk.out)
      gi_wp2_with fail
      with_reducible refine (callsIn_wide.2 HA.out).mono ?_
      rintro e w3 ⟨rfl, hc3⟩
      have HC3 := Lib.hid hc3
      clear hc3
      go_frame
      gi_wp2
      refine bodyPost_ret (results_none rfl _ _ _) rfl ?_
      have hall := HC3.out.alloc (.cells #[.int .i64 0, .int .i64 0] 102)
      refine ⟨⟨_, rfl⟩, .inl ⟨pre, ⟨by rw [HT.out]; simp, ?_⟩, HJ.out _ _ _ HJk.out (.quiet hall)⟩⟩
      rw [HD.out]
      exact HRk.out.ch hall (by simp) (by simp)
    | cons x ys =>
      have HA := Lib.hid (rC.at0_l HRk.out)
      gi_wp2_with fail
      with_reducible refine (callsIn_wide.2 HA.out).mono ?_
      rintro e w3 ⟨rfl, hc3⟩
      have hall := hc3.alloc (.cells #[.int .i64 x.1, .int .i64 x.2] 102)
      have hb := Box2.new w3 (.int .i64 x.1) (.int .i64 x.2) 102
      have hs3 := hc3.size
      have HA4 := Lib.hid hall
      have HR4 := Lib.hid (HRk.out.ch hall (by simp) (by simp))
      have hd1 := (hall.cell (p := ⟨B1, 0, none⟩) hl1 (by simp)).trans HC1.out
      have hd2 := (hall.cell (p := ⟨B2, 0, none⟩) hl2 (by simp)).trans HC2.out
      have HJ4 := Lib.hid (HJ.out _ _ _ HJk.out (.quiet hall))
      have k0 := hb.c0
      have k1 := hb.c1
      have HBx := Lib.hid hb
      have HSb := Lib.hid hs3
      clear hall hc3 hb hs3 hc1 hl1 hl2
      by_cases hx1 : x.2 < 1
      · have hup := cons_no (pre := pre) (ys := ys) (show up gen x = false by unfold up; exact decide_eq_false (by omega))
        have HU := Lib.hid hup
        have dx : decide (x.2 < 1) = true := decide_eq_true hx1
        clear hup
        go_frame
        gi_wp2
        refine bodyPost_ret (results_none rfl _ _ _) rfl ?_
        exact ⟨⟨_, rfl⟩, .inl ⟨pre, ⟨by rw [HT.out, HU.out.1], by rw [HD.out, HU.out.2]; exact HR4.out⟩, HJ4.out⟩⟩
      · by_cases hx2 : gen < x.2
        · have hup := cons_no (pre := pre) (ys := ys) (show up gen x = false by unfold up; exact decide_eq_false (by omega))
          have HU := Lib.hid hup
          have dx : decide (x.2 < 1) = false := decide_eq_false hx1
          have dx2 : decide (gen < x.2) = true := decide_eq_true hx2
          clear hup
          go_frame
          gi_wp2
          refine bodyPost_ret (results_none rfl _ _ _) rfl ?_
          exact ⟨⟨_, rfl⟩, .inl ⟨pre, ⟨by rw [HT.out, HU.out.1], by rw [HD.out, HU.out.2]; exact HR4.out⟩, HJ4.out⟩⟩
        · have hux : up gen x = true := by unfold up; exact decide_eq_true (by omega)
          have HU := Lib.hid (cons_up (pre := pre) (ys := ys) hux)
          have HU2 := Lib.hid (show (x :: ys).dropWhile (up gen) = ys.dropWhile (up gen) by rw [List.dropWhile_cons, hux]; simp)
          have dx : decide (x.2 < 1) = false := decide_eq_false hx1
          have dx2 : decide (gen < x.2) = false := decide_eq_false hx2
          have HP := Lib.hid (rC.pop_l HR4.out)
          clear hux
          go_frame
          gi_wp2_with fail
          with_reducible refine (callsIn_wide.2 HP.out).mono ?_
          rintro e w5 ⟨rfl, hr5, hc5⟩
          have HR5 := Lib.hid hr5
          have HJ5 := Lib.hid (HJ.out _ _ _ HJ4.out (.ring HR4.out hc5))
          have hRb : w3.heap.size ∉ [R, Q] := by
            have := HRk.out.lt
            have := HSb.out
            simp; omega
          have hb5 := HBx.out.ch hc5 hRb
          have m0 := hb5.c0
          have m1 := hb5.c1
          have HE1 := Lib.hid ((hc5.cell (p := ⟨B1, 0, none⟩) (cell_lt hd1) (by have := HN.out; simp; omega)).trans hd1)
          have HE2 := Lib.hid ((hc5.cell (p := ⟨B2, 0, none⟩) (cell_lt hd2) (by have := HN.out; simp; omega)).trans hd2)
          have HPx := Lib.hid (show pre ++ [x] <+: xs.takeWhile (up gen) by rw [HT.out, HU.out]; exact List.prefix_append _ _)
          obtain ⟨fn, tmps, assign, body, hy, hR⟩ := HY.out pre x w5 HJ5.out HPx.out
          unfold tv at hy
          clear hr5 hc5 hb5 hRb k0 k1 hd1 hd2
          go_frame
          gi_wp2
          refine hR.mono ?_
          rintro e W3 (⟨rfl, hJ3, hk3⟩ | ⟨rfl, hJx3⟩)
          · have HK3 := Lib.hid hk3
            have HJ3 := Lib.hid hJ3
            clear hk3 hJ3 hy hR
            go_frame
            gi_wp2
            go_roundw
            case rel =>
              exact ⟨pre ++ [x], ys, by rw [HT.out, HU.out], by rw [HD.out, HU2.out], HJ3.out, HR5.out.keep HK3.out sR sQ, HK3.out.cell s1 HE1.out, HK3.out.cell s2 HE2.out⟩
            case measure =>
              rw [held_is (HR5.out.keep HK3.out sR sQ), HH.out]
              simp
          · have HJx := Lib.hid hJx3
            clear hJx3 hy hR
            go_frame
            gi_wp2
            refine bodyPost_ret (results_none rfl _ _ _) rfl ?_
            exact ⟨⟨_, rfl⟩, .inr ⟨_, HPx.out, HJx.out⟩⟩
theorem fronts_seq (n : Nat) {B1 B2 R Q : Nat} {gen : Int} {xs : List Th} {S : Nat → Prop} (s1 : S B1) (s2 : S B2) (sR : S R) (sQ : S Q) (hBR : B1 ≠ R ∧ B1 ≠ Q ∧ B2 ≠ R ∧ B2 ≠ Q) (w : World)
    (hb1 : w.cell? ⟨B1, 0, none⟩ = some (.pointer (some ⟨R, 0, none⟩))) (hb2 : w.cell? ⟨B2, 0, none⟩ = some (.int .i64 gen)) (hL : RL w R Q 64 xs) :
    SeqP Fence.wide n Tryz.prog 93 #[.pointer (some ⟨B1, 0, none⟩), .pointer (some ⟨B2, 0, none⟩)] (fun x : Th => #[tv x]) (StF R Q) (Keep S) (fun ys W => ys = xs.takeWhile (up gen) ∧ RL W R Q 64 (xs.dropWhile (up gen))) (fun pre => pre <+: xs.takeWhile (up gen)) w := fun l J Jx W hW hJ hY h0 =>
  fronts1_in n l B1 B2 R Q gen xs S s1 s2 sR sQ hBR J Jx hJ hY W ((hW.cell (p := ⟨B1, 0, none⟩) (cell_lt hb1)).trans hb1) ((hW.cell (p := ⟨B2, 0, none⟩) (cell_lt hb2)).trans hb2) (hL.same (hW.block R hL.lt.1) (hW.block Q hL.lt.2)) h0
end Go.Proofs.YtjoaigadlpndcaaGreatDoor

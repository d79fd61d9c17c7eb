/-
  The program's domain beside the answer's, in a round of the law.
-/
import Derived.Test.YtjoaigadlpndcaaGreatDoorGzC
import Derived.Test.YtjoaigadlpndcaaGreatDoorGzG
namespace Go.Proofs.YtjoaigadlpndcaaGreatDoor
open Go.RowKit Go.Shelf
open rC (Th)

section
variable {w w' : World} {D : Nat} {s : Sl3} {z : Az} {X Y : Nat → Prop}
theorem RZ.lts (h : RZ w D s z X) : (∀ g, s.m.ownBlock = some g → g < w.heap.size) ∧ (∀ g, s.v.ownBlock = some g → g < w.heap.size) ∧ (z.rn = true → ∀ g, s.l.ownBlock = some g → g < w.heap.size) :=
  ⟨fun g e => (h.rd.row.lt g e).2, fun g e => h.rc.lt e, fun e g eg => by
    obtain ⟨g', cap, e1, e2⟩ := h.rb e
    rw [e1] at eg
    have e3 : g' = g := Option.some.inj eg
    have := e2.lo.2
    omega⟩
/-- A wider part: only what was laid by then is looked at. -/
theorem RZ.wide (h : RZ w D s z X) (hX : ∀ k, k < w.heap.size → Y k → X k) : RZ w D s z Y :=
  ⟨h.rd, h.rc, h.rb, fun g e hy => h.x1 g e (hX g (h.lts.1 g e) hy), fun g e hy => h.x2 g e (hX g (h.lts.2.1 g e) hy), fun e g eg hy => h.x3 e g eg (hX g (h.lts.2.2 e g eg) hy)⟩
theorem RZ.chP {T : Nat → Prop} (h : RZ w D s z X) (hc : ChP T w w') (hT : ∀ k, T k → X k) : RZ w' D s z X :=
  ⟨⟨own_chP h.rd.row hc (fun g e t => h.x1 g e (hT g t)), h.rd.ok⟩, by
    obtain ⟨B, hr⟩ := h.rc
    exact ⟨B, own_chP hr hc (fun g e t => h.x2 g e (hT g t))⟩, fun e => by
    obtain ⟨g, cap, e1, e2⟩ := h.rb e
    exact ⟨g, cap, e1, ⟨own_chP e2.row hc (fun k ek t => h.x3 e k (by rw [e1]; exact ek) (hT k t))⟩⟩, h.x1, h.x2, h.x3⟩
theorem RZ.deeds (h : RZ w D s z X) (hX : ∀ k, X k → k < w.heap.size) (hc : Ch [] w w') {a1 : Option Addr} {n1 c1 : Nat} {ds : List (Nat × Bool)} (hr : RD w' D (.slice a1 n1 c1) ds)
    (hm : ∀ k, (Value.slice a1 n1 c1).ownBlock = some k → s.m.ownBlock = some k ∨ w.heap.size ≤ k) :
    RZ w' D ⟨a1, n1, c1, s.a2, s.n2, s.c2, s.a3, s.n3, s.c3⟩ ⟨ds, z.M, z.last, z.rn, z.t, z.P, z.p, z.gen, z.ov, z.wt⟩ X :=
  have q := h.quiet hc
  ⟨hr, q.rc, q.rb, fun g e hx => by
    rcases hm g e with h1 | h1
    · exact h.x1 g h1 hx
    · have := hX g hx; omega, h.x2, h.x3⟩
theorem RZ.calls (h : RZ w D s z X) (hX : ∀ k, X k → k < w.heap.size) (hc : Ch [] w w') {a2 : Option Addr} {n2 c2 : Nat} {M : List Cb} (hr : RowC w' (.slice a2 n2 c2) M)
    (hm : ∀ k, (Value.slice a2 n2 c2).ownBlock = some k → s.v.ownBlock = some k ∨ w.heap.size ≤ k) :
    RZ w' D ⟨s.a1, s.n1, s.c1, a2, n2, c2, s.a3, s.n3, s.c3⟩ ⟨z.ds, M, z.last, z.rn, z.t, z.P, z.p, z.gen, z.ov, z.wt⟩ X :=
  have q := h.quiet hc
  ⟨q.rd, hr, q.rb, h.x1, fun g e hx => by
    rcases hm g e with h1 | h1
    · exact h.x2 g h1 hx
    · have := hX g hx; omega, h.x3⟩
theorem RZ.wants (h : RZ w D s z X) (hc : Ch [] w w') (v : Int) : RZ w' D s ⟨z.ds, z.M, z.last, z.rn, z.t, z.P, z.p, z.gen, z.ov, v⟩ X :=
  have q := h.quiet hc
  ⟨q.rd, q.rc, q.rb, h.x1, h.x2, h.x3⟩
end
/-- The lists' Add, wherever it is called. -/
theorem addOk_in {w : World} {v : Value} {M : List Cb} (h : RowC w v M) (hl : M.length ≤ 100000) {n last : Int} {c : Int} (h0 : 0 ≤ c) (h1 : c < n) {ad : Option Addr} {cap : Nat} {zs : List Int} (hz : IntsAt w ad zs) (hzl : zs.length ≤ 1000) (hc64 : cntM M c ≤ 64)
    {M' : List Cb} (hM : M ++ (zs.take (64 - cntM M c)).map (mkC c) = M') {E : Int} (hE : (if 64 < cntM M c + zs.length then 3 else 0) = E) : AddOk w n last c v (.slice ad zs.length cap) M' E := by
  intro w2 hc _
  subst hM hE
  refine (radd_ok (h.quiet hc) hl h0 h1 (hz.ch hc) hzl hc64).mono ?_
  rintro e w' ⟨v', e1, e2, e3, e4⟩
  exact ⟨v', e1, e2, fun g e => .inr (e3 g e), e4⟩
theorem addOk_out {w : World} {v : Value} {M : List Cb} (h : RowC w v M) (n last c : Int) (hc : c < 0 ∨ n ≤ c) (vz : Value) : AddOk w n last c v vz M 2 := by
  intro w2 hc2 _
  refine (radd_bad (h.quiet hc2) n last c hc vz).mono ?_
  rintro e w' ⟨e1, e2⟩
  exact ⟨v, e1, h.quiet (hc2.trans e2), fun g e => .inl ⟨e, h.lt e⟩, e2⟩

/-- Which blocks are the domain's, with the answer's scan. -/
theorem go_scZ {base a c k : Nat} {z : Az} : GO base a (scZ c z) k ↔ ((base ≤ k ∧ k ≤ a) ∨ (z.rn = true ∧ k = c)) := by
  unfold GO scZ
  by_cases hr : z.rn = true
  · rw [if_pos hr]
    constructor
    · rintro (h | ⟨s, e, h⟩)
      · exact .inl h
      · cases e; exact .inr ⟨hr, h⟩
    · rintro (h | ⟨_, h⟩)
      · exact .inl h
      · exact .inr ⟨_, rfl, h⟩
  · rw [if_neg hr]
    constructor
    · rintro (h | ⟨s, e, h⟩)
      · exact .inl h
      · cases e
    · rintro (h | ⟨h, _⟩)
      · exact .inl h
      · exact absurd h hr
theorem endZ_rn {z : Az} (h : (endZ z).rn = true) : z.rn = true := by
  unfold endZ at h
  split at h
  · rename_i e; exact e
  · exact h
theorem dgz_beg' {n k c c' : Nat} {z : Az} (h : IZ n k z) : ∃ c2, begD c' n (dgz c z) = dgz c2 (begZ z) ∧ ((c2 = c ∧ begZ z = z) ∨ c2 = c') := by
  by_cases hq : z.rn = false ∧ (0 < zcM z.M ∨ z.gen < z.wt)
  · obtain ⟨c2, h1, h2⟩ := dgz_beg (c := c') (c' := c') h
    have e : c2 = c' := by rcases h2 with h2 | h2 <;> exact h2
    refine ⟨c2, ?_, .inr e⟩
    rw [← h1]
    have hs : dgz c z = dgz c' z := by
      unfold dgz scZ
      rw [hq.1]
      rfl
    rw [hs]
  · refine ⟨c, ?_, .inl ⟨rfl, ?_⟩⟩
    · unfold begD begZ
      rw [if_neg (fun e => hq ((dgz_asks h).1 e)), if_neg hq]
    · unfold begZ
      rw [if_neg hq]

/-- The program's domain beside the answer's (box b); k acts on. -/
structure QX (w wr : World) (base a L n b c k : Nat) (s : Sl3) (z : Az) : Prop where
  dl : DL w wr base a L n (dgz c z)
  bz : BZ wr b s n z
  rz : RZ wr w.heap.size s z (fun j => j = b ∨ GO base a (scZ c z) j)
  iz : IZ n k z
  ab : a < b
  bL : b < L
  hL : L ≤ wr.heap.size
  hk : k ≤ 50
  nn : n ≤ 64
section
variable {w w3 w5 w6 : World} {base a L n b c c' k : Nat} {s s' : Sl3} {z z' : Az}
theorem QX.quiet (h : QX w w3 base a L n b c k s z) (hc : Ch [] w3 w5) : QX w w5 base a L n b c k s z :=
  ⟨h.dl.quiet hc, h.bz.quiet hc, h.rz.quiet hc, h.iz, h.ab, h.bL, Nat.le_trans h.hL hc.size, h.hk, h.nn⟩
theorem QX.own_b (h : QX w w3 base a L n b c k s z) : ¬ GO base a (scZ c z) b := h.dl.own h.ab h.bL
theorem QX.xlt (h : QX w w3 base a L n b c k s z) : ∀ j, (j = b ∨ GO base a (scZ c z) j) → j < w3.heap.size := fun j hj => by
  rcases hj with hj | hj
  · have := h.bL; have := h.hL; omega
  · exact h.dl.o_lt hj
theorem QX.lo (h : QX w w3 base a L n b c k s z) : w.heap.size ≤ b := by have := h.dl.lo; have := h.ab; omega
theorem QX.szw (h : QX w w3 base a L n b c k s z) : w.heap.size ≤ w3.heap.size := h.dl.ch.size
/-- A block laid behind is not the domain's. -/
theorem QX.new (h : QX w w3 base a L n b c k s z) {q : Nat} (hq : w3.heap.size ≤ q) : ¬ GO base a (scZ c z) q ∧ q ≠ b :=
  ⟨fun e => by have := h.dl.o_lt e; omega, fun e => by have := h.bL; have := h.hL; omega⟩
/-- Behind both calls, where the answer's domain is stored. -/
theorem QX.next (h : QX w w3 base a L n b c k s z) (h5 : Ch [] w3 w5) (h6 : ChP (GO base a (scZ c z)) w5 w6) (hd : DL w w6 base a L n (dgz c' z'))
    (hr : RZ w5 w.heap.size s' z' (fun j => j = b ∨ GO base a (scZ c z) j)) (hi : IZ n (k + 1) z') (hk : k < 50) (hG : ∀ j, j < w5.heap.size → GO base a (scZ c' z') j → GO base a (scZ c z) j) :
    QX w (st11 w6 b s'.m (.int .i64 (n : Int)) (.int .i64 z'.last) s'.v (.bool z'.rn) (.int .i64 z'.t) (.int .i64 (z'.P : Int)) s'.l (.int .i64 z'.gen) (.int .i64 z'.ov) (.int .i64 z'.wt)) base a L n b c' (k + 1) s' z' := by
  have hst := st11_ch w6 b s'.m (.int .i64 (n : Int)) (.int .i64 z'.last) s'.v (.bool z'.rn) (.int .i64 z'.t) (.int .i64 (z'.P : Int)) s'.l (.int .i64 z'.gen) (.int .i64 z'.ov) (.int .i64 z'.wt)
  have hb := h.lo
  refine ⟨hd.same (T := fun j => j = b) (.of hst (by simp)) (fun j e => ?_), ((h.bz.quiet h5).chP h6 h.own_b).setAll _ _ _ _ _ _ _ _ _ _ _, ?_, hi, h.ab, h.bL, ?_, by omega, h.nn⟩
  · subst e; exact ⟨hb, hd.own h.ab h.bL⟩
  · have h1 : RZ w5 w.heap.size s' z' (fun j => (j = b ∨ GO base a (scZ c z) j) ∨ GO base a (scZ c' z') j) := hr.wide (fun j hj e => by
      rcases e with e | e
      · exact e
      · exact .inr (hG j hj e))
    exact ((h1.chP h6 (fun j e => .inl (.inr e))).away hst (by simp)).wide (fun j _ e => by
      rcases e with e | e
      · exact .inl (.inl e)
      · exact .inr e)
  · exact Nat.le_trans h.hL (Nat.le_trans h5.size (Nat.le_trans h6.size hst.size))
end
/-- The act of a round: its four cells, in a block aside. -/
structure Qa (w : World) (q : Nat) (K R C Id : Int) : Prop where
  c0 : w.cell? ⟨q, 0, none⟩ = some (.int .i64 K)
  c1 : w.cell? ⟨q, 1, none⟩ = some (.int .i64 R)
  c2 : w.cell? ⟨q, 2, none⟩ = some (.int .i64 C)
  c3 : w.cell? ⟨q, 3, none⟩ = some (.int .i64 Id)
section
variable {w w' : World} {q : Nat} {K R C Id : Int}
theorem Qa.new (w : World) (K R C Id : Int) (t : TypeId) : Qa (w.alloc (.cells #[.int .i64 K, .int .i64 R, .int .i64 C, .int .i64 Id] t)) w.heap.size K R C Id :=
  ⟨by rw [World.cell?_alloc_at _ _ _ _ rfl]; rfl, by rw [World.cell?_alloc_at _ _ _ _ rfl]; rfl, by rw [World.cell?_alloc_at _ _ _ _ rfl]; rfl, by rw [World.cell?_alloc_at _ _ _ _ rfl]; rfl⟩
theorem Qa.lt (h : Qa w q K R C Id) : q < w.heap.size := cell_lt h.c0
theorem Qa.same (h : Qa w q K R C Id) (hs : w'.heap[q]? = w.heap[q]?) : Qa w' q K R C Id :=
  have e : ∀ o, w'.cell? ⟨q, o, none⟩ = w.cell? ⟨q, o, none⟩ := fun o => World.cell?_of_block (a := ⟨q, o, none⟩) hs
  ⟨(e _).trans h.c0, (e _).trans h.c1, (e _).trans h.c2, (e _).trans h.c3⟩
theorem Qa.ch {S : List Nat} (h : Qa w q K R C Id) (hc : Ch S w w') (hS : q ∉ S) : Qa w' q K R C Id := h.same (hc.block q h.lt hS)
theorem Qa.quiet (h : Qa w q K R C Id) (hc : Ch [] w w') : Qa w' q K R C Id := h.ch hc (by simp)
theorem Qa.chP {T : Nat → Prop} (h : Qa w q K R C Id) (hc : ChP T w w') (hT : ¬ T q) : Qa w' q K R C Id := h.same (hc.block q h.lt hT)
end
/-- Both, in a round. -/
def QR (w wr : World) (base a L n b c k : Nat) (s : Sl3) (z : Az) (q : Nat) (K R C Id : Int) : Prop :=
  QX w wr base a L n b c k s z ∧ Qa wr q K R C Id ∧ ¬ GO base a (scZ c z) q ∧ q ≠ b
theorem QR.next {w w3 w5 w6 : World} {base a L n b c c' k : Nat} {s s' : Sl3} {z z' : Az} {q : Nat} {K R C Id : Int} (h : QR w w3 base a L n b c k s z q K R C Id) (h5 : Ch [] w3 w5) (h6 : ChP (GO base a (scZ c z)) w5 w6) (hd : DL w w6 base a L n (dgz c' z'))
    (hr : RZ w5 w.heap.size s' z' (fun j => j = b ∨ GO base a (scZ c z) j)) (hi : IZ n (k + 1) z') (hk : k < 50) (hG : ∀ j, j < w5.heap.size → GO base a (scZ c' z') j → GO base a (scZ c z) j) :
    QR w (st11 w6 b s'.m (.int .i64 (n : Int)) (.int .i64 z'.last) s'.v (.bool z'.rn) (.int .i64 z'.t) (.int .i64 (z'.P : Int)) s'.l (.int .i64 z'.gen) (.int .i64 z'.ov) (.int .i64 z'.wt)) base a L n b c' (k + 1) s' z' q K R C Id :=
  ⟨h.1.next h5 h6 hd hr hi hk hG, ((h.2.1.quiet h5).chP h6 h.2.2.1).ch (st11_ch _ _ _ _ _ _ _ _ _ _ _ _ _) (by simpa using h.2.2.2), fun e => h.2.2.1 (hG q (Nat.lt_of_lt_of_le h.2.1.lt h5.size) e), h.2.2.2⟩
end Go.Proofs.YtjoaigadlpndcaaGreatDoor

/-
  The law XmapKeeps: its lists.
-/
import Derived.Test.YtalhlopjaijhcaaGreatMgM
namespace Go.Proofs.YtalhlopjaijhcaaGreat
open Go.RowKit

/-- A handle that is held and not linked, and its element. -/
structure Kp (s : MS) (g : Int × Int) (x : El) : Prop where
  e : errM s g = 0
  v : elM s g = x
  u : ∀ e ∈ s.tb, e.v ≠ g
theorem newH_ne {s : MS} {g : Int × Int} (he : errM s g = 0) (hf : freeN0 s ≠ 0) : newH s ≠ g := by
  rintro rfl
  obtain ⟨j, hj⟩ := first_free hf
  obtain ⟨e1, e2, _⟩ := putA_some hj
  obtain ⟨k, h1, h2, h3, h4⟩ := findE_zero he
  have h5 := (free_held (firstOf_some hj).2).1
  have : putS s.xs = (k : Int) := h1
  rw [e1] at this
  obtain rfl : j = k := by omega
  rw [h5] at h3
  cases h3
theorem link_proj (s : MS) (x : El) : (linkM s x).xs = putL s.xs x ∧ (linkM s x).tb = ⟨x.k, newH s⟩ :: s.tb ∧ (linkM s x).wd = s.wd ∧ (linkM s x).kind = s.kind ∧ (linkM s x).n = s.n ∧ (linkM s x).cl = s.cl := by
  rw [linkM_eq]
  exact ⟨rfl, rfl, rfl, rfl, rfl, rfl⟩
theorem Kp.link {s : MS} {g : Int × Int} {x : El} (h : Kp s g x) (hf : freeN0 s ≠ 0) (y : El) : Kp (linkM s y) g x := by
  obtain ⟨p1, p2, _⟩ := link_proj s y
  obtain ⟨k1, k2⟩ := put_keeps (x := y) h.e
  refine ⟨?_, ?_, ?_⟩
  · unfold errM; rw [p1]; exact k1
  · unfold elM; rw [p1]; exact k2.trans h.v
  · rw [p2]
    intro e he
    rcases List.mem_cons.1 he with rfl | he
    · exact newH_ne h.e hf
    · exact h.u e he
theorem Kp.unlink {s : MS} {g : Int × Int} {x : El} (h : Kp s g x) (k : Nat) : Kp (unlinkM s k) g x := ⟨h.e, h.v, fun e he => h.u e (List.mem_filter.1 (show e ∈ List.filter _ s.tb from he)).1⟩
theorem Kp.set {s : MS} {g : Int × Int} {x : El} (h : Kp s g x) {hd : Int × Int} (hn : hd ≠ g) (y : El) (k : Nat) : Kp (useM (setM s hd y) k) g x := by
  obtain ⟨_, _, _, _, p1, p2⟩ := useM_proj (setM s hd y) k
  refine ⟨?_, ?_, ?_⟩
  · unfold errM; rw [p1]; exact (set_find _ _).trans h.e
  · unfold elM; rw [p1]; exact (set_get_other (fun e => hn (Prod.ext e.1.symm e.2.symm))).trans h.v
  · rw [p2]; exact h.u
/-- A put: it links, or sets, or leaves all as it was. -/
theorem put_cases {s : MS} (hw : WF s) (how : Int) (k : Nat) (l : List Nat) (P : MS → Prop) (h0 : P s)
    (hset : ∀ hd, valE s.tb k = some hd → P (useM (setM s hd ⟨k, valOf l⟩) k))
    (hlink : freeN0 s ≠ 0 → valE s.tb k = none → s.tb.length < s.n → P (linkM s ⟨k, valOf l⟩))
    (hout : freeN0 s ≠ 0 → valE s.tb k = none → s.n ≤ s.tb.length → s.kind = 2 → P (linkM (unlinkM s (oldM s)) ⟨k, valOf l⟩)) : P (putM s how k l).1 := by
  unfold putM
  split
  · exact h0
  · split
    · exact h0
    · split
      · rename_i hd hv
        unfold renewM
        split
        · exact h0
        · exact hset hd hv
      · rename_i hv
        unfold addM
        split
        · exact h0
        · rename_i hr
          have hr0 : refM s how = 0 := Decidable.not_not.1 hr
          obtain ⟨z1, _, _, z4⟩ := refM_zero hw hr0
          split
          · rename_i hf
            exact hout z1 hv hf (z4 hf)
          · rename_i hf
            exact hlink z1 hv (by omega)
theorem Kp.put {s : MS} {g : Int × Int} {x : El} (hw : WF s) (h : Kp s g x) (how : Int) (k : Nat) (l : List Nat) : Kp (putM s how k l).1 g x :=
  put_cases hw how k l (fun t => Kp t g x) h (fun hd hv => h.set (h.u ⟨k, hd⟩ (val_some hv)) _ _) (fun hf _ _ => h.link hf _) (fun hf _ _ _ => (h.unlink _).link hf _)
theorem put_wd {s : MS} (hw : WF s) (how : Int) (k : Nat) (l : List Nat) : (putM s how k l).1.wd = s.wd :=
  put_cases hw how k l (fun t => t.wd = s.wd) rfl (fun _ _ => (useM_proj _ _).2.2.1) (fun _ _ _ => (link_proj _ _).2.2.1) (fun _ _ _ _ => (link_proj _ _).2.2.1)
theorem Kp.linked {s : MS} {g : Int × Int} {x : El} (h : Kp s g x) : isLinked s g = false := by
  unfold isLinked
  rw [decide_eq_false_iff_not]
  rintro ⟨_, h2⟩
  exact h.u _ (val_some h2) rfl
theorem Kp.load {s : MS} {g : Int × Int} {x : El} (h : Kp s g x) {i : Nat} (hi : i < s.wd) : loadM s g (i : Int) = (x.v i, 0) := by
  unfold loadM
  rw [if_neg (by rw [h.e]; decide), if_neg (by omega), h.v]
  rfl
/-- A handle whose slot has gone on. -/
def Stl (s : MS) (g : Int × Int) : Prop := ∃ j : Nat, g.1 = (j : Int) ∧ j < s.xs.length ∧ g.2 < ((at0 s.xs j).gen : Int)
theorem Stl.err {s : MS} {g : Int × Int} (h : Stl s g) : errM s g = 7 := by
  obtain ⟨j, h1, h2, h3⟩ := h
  unfold errM
  rw [h1]
  exact findE_stale h2 (fun e => by have := e.2; omega)
theorem gen_put (xs : List (Sl El)) (x : El) (j : Nat) : (at0 (putL xs x) j).gen = (at0 xs j).gen := by
  unfold putL
  cases hf : firstOf xs isFree with
  | none => rfl
  | some k =>
    show (at0 (xs.set k _) j).gen = _
    by_cases e : j = k
    · subst e; rw [at0_set_same _ _ _ (firstOf_some hf).1]
    · rw [at0_set_other _ _ _ _ e]
theorem gen_set (xs : List (Sl El)) (a g : Int) (x : El) (j : Nat) : (at0 (setL xs a g x) j).gen = (at0 xs j).gen := by
  unfold setL
  split
  · rename_i h0
    obtain ⟨k, rfl, hk, _, _⟩ := findE_zero h0
    rw [Int.toNat_natCast]
    by_cases e : j = k
    · subst e; rw [at0_set_same _ _ _ hk]
    · rw [at0_set_other _ _ _ _ e]
  · rfl
theorem Stl.of {s t : MS} {g : Int × Int} (h : Stl s g) (hl : t.xs.length = s.xs.length) (hg : ∀ j, (at0 t.xs j).gen = (at0 s.xs j).gen) : Stl t g := by
  obtain ⟨j, h1, h2, h3⟩ := h
  exact ⟨j, h1, by rw [hl]; exact h2, by rw [hg]; exact h3⟩
theorem Stl.link {s : MS} {g : Int × Int} (h : Stl s g) (y : El) : Stl (linkM s y) g := by
  obtain ⟨p1, _⟩ := link_proj s y
  exact h.of (by rw [p1]; exact put_len _ _) (fun j => by rw [p1]; exact gen_put _ _ _)
theorem Stl.put {s : MS} {g : Int × Int} (hw : WF s) (h : Stl s g) (how : Int) (k : Nat) (l : List Nat) : Stl (putM s how k l).1 g :=
  put_cases hw how k l (fun t => Stl t g) h
    (fun hd _ => by
      obtain ⟨_, _, _, _, p1, p2⟩ := useM_proj (setM s hd ⟨k, valOf l⟩) k
      exact h.of (by rw [p1]; exact setL_len _ _ _ _) (fun j => by rw [p1]; exact gen_set _ _ _ _ _))
    (fun _ _ _ => h.link _) (fun _ _ _ _ => Stl.link (s := unlinkM s (oldM s)) h _)
theorem Kp.free {s : MS} {g : Int × Int} {x : El} (h : Kp s g x) : frM s g = (freeM s g, 0) ∧ Stl (freeM s g) g := by
  refine ⟨?_, ?_⟩
  · unfold frM
    rw [if_neg (by rw [h.linked]; decide), h.e]
  · obtain ⟨k, h1, h2, h3, h4⟩ := findE_zero h.e
    refine ⟨k, h1, by show k < (freeL _ _ _).length; rw [freeL_len]; exact h2, ?_⟩
    show g.2 < ((at0 (freeL s.xs g.1 g.2) k).gen : Int)
    unfold freeL
    rw [if_pos (show findE s.xs g.1 g.2 = 0 from h.e), h1, Int.toNat_natCast, at0_set_same _ _ _ h2]
    show g.2 < (((at0 s.xs k).gen + 1 : Nat) : Int)
    omega
theorem Stl.linked {s : MS} {g : Int × Int} (h : Stl s g) : isLinked s g = false := by
  unfold isLinked
  rw [decide_eq_false_iff_not, h.err]
  rintro ⟨h1, _⟩
  cases h1
theorem Stl.free {s : MS} {g : Int × Int} (h : Stl s g) : frM s g = (s, 7) := by
  unfold frM
  rw [if_neg (by rw [h.linked]; decide), h.err]
  have : freeM s g = s := by
    unfold freeM freeL
    rw [if_neg (by have := h.err; unfold errM at this; rw [this]; decide)]
  rw [this]
theorem Stl.load {s : MS} {g : Int × Int} (h : Stl s g) (i : Int) : loadM s g i = (0, 7) := by
  unfold loadM
  rw [if_pos (by rw [h.err]; decide), h.err]
theorem Stl.store {s : MS} {g : Int × Int} (h : Stl s g) (i : Int) (x : Nat) : storeM s g i x = (s, 7) := by
  unfold storeM
  rw [if_pos (by rw [h.err]; decide), h.err]
/-- The first one that is put into a new map. -/
theorem new_base {kind n wd : Nat} (h : kind ≠ 0) : newM kind n wd = ⟨kind, n, wd, false, aE.fresh (2 * n), [], []⟩ := if_neg h
theorem new_first {n : Nat} (h : 1 ≤ n) : firstOf (aE.fresh (2 * n)) isFree = some 0 := by rw [← arrX_zero]; exact arrX_first (by omega)
theorem new_newH {kind n wd : Nat} (hk : kind ≠ 0) (h : 1 ≤ n) : newH (newM kind n wd) = (0, 1) := by
  rw [new_base hk]
  obtain ⟨e1, e2, _⟩ := putA_some (new_first h)
  show (putS (aE.fresh (2 * n)), putG (aE.fresh (2 * n))) = _
  rw [e1, e2, aE.at0_fresh _ _ (by omega)]
  rfl
theorem new_put {kind n wd : Nat} (hk : kind ≠ 0) (h : 1 ≤ n) {how : Int} (hh : how = 0 ∨ how = 1) (k : Nat) (l : List Nat) (hl : l.length ≤ wd) :
    putM (newM kind n wd) how k l = (linkM (newM kind n wd) ⟨k, valOf l⟩, ⟨(0, 1), (0, 0), false, 0⟩) := by
  have hb := new_base (n := n) (wd := wd) hk
  have hn := new_newH (wd := wd) hk h
  have e1 : (newM kind n wd).wd = wd := by rw [hb]
  have e2 : (newM kind n wd).cl = false := by rw [hb]
  have e3 : (newM kind n wd).tb = [] := by rw [hb]
  have e4 : (newM kind n wd).kind = kind := by rw [hb]
  have e5 : (newM kind n wd).n = n := by rw [hb]
  have e6 : freeN0 (newM kind n wd) ≠ 0 := by
    intro h0
    have h1 := new_first h
    unfold firstOf at h1
    rw [show sel (aE.fresh (2 * n)) isFree = [] from List.length_eq_zero_iff.1 (by unfold freeN0 at h0; rw [hb] at h0; exact h0)] at h1
    cases h1
  unfold putM
  rw [if_neg (by rw [e1]; omega), if_neg (by rw [e2]; decide), e3]
  show addM _ _ _ = _
  unfold addM
  have e7 : refM (newM kind n wd) how = 0 := by
    unfold refM
    rw [if_neg (by rw [e4]; exact hk), if_neg (by omega), if_neg (by rw [e3, e5]; simp; omega), if_neg e6]
  rw [if_neg (by rw [e7]; decide), if_neg (by rw [e3, e5]; simp; omega), hn]
theorem new_gone_wd {kind n wd : Nat} (hk : kind ≠ 0) (k : Nat) (l : List Nat) : (unlinkM (linkM (newM kind n wd) ⟨k, valOf l⟩) k).wd = wd := by
  have h1 : (unlinkM (linkM (newM kind n wd) ⟨k, valOf l⟩) k).wd = (linkM (newM kind n wd) ⟨k, valOf l⟩).wd := rfl
  rw [h1, (link_proj _ _).2.2.1, new_base hk]
/-- Put and deleted. -/
theorem new_gone {kind n wd : Nat} (hk : kind ≠ 0) (h : 1 ≤ n) (k : Nat) (l : List Nat) :
    delM (linkM (newM kind n wd) ⟨k, valOf l⟩) k = (unlinkM (linkM (newM kind n wd) ⟨k, valOf l⟩) k, (0, 1), 0) ∧ (unlinkM (linkM (newM kind n wd) ⟨k, valOf l⟩) k).tb = [] ∧ Kp (unlinkM (linkM (newM kind n wd) ⟨k, valOf l⟩) k) (0, 1) ⟨k, valOf l⟩ := by
  have hb := new_base (n := n) (wd := wd) hk
  have hn := new_newH (wd := wd) hk h
  obtain ⟨p1, p2, p3, p4, _⟩ := link_proj (newM kind n wd) ⟨k, valOf l⟩
  have e3 : (newM kind n wd).tb = [] := by rw [hb]
  have e4 : (newM kind n wd).kind = kind := by rw [hb]
  rw [hn, e3] at p2
  have e8 : (unlinkM (linkM (newM kind n wd) ⟨k, valOf l⟩) k).tb = [] := by
    show delE (linkM _ _).tb k = []
    rw [p2]
    simp [delE]
  refine ⟨?_, e8, ?_⟩
  · unfold delM
    rw [if_neg (by rw [p4, e4]; exact hk), p2]
    have : valE ([⟨k, (0, 1)⟩] : List (Ent (Int × Int))) k = some (0, 1) := by simp [valE]
    simp only [this]
  · have hx : (newM kind n wd).xs = aE.fresh (2 * n) := by rw [hb]
    obtain ⟨t1, t2⟩ := put_there (xs := aE.fresh (2 * n)) ⟨k, valOf l⟩ (new_first h)
    have hn2 : (putS (aE.fresh (2 * n)), putG (aE.fresh (2 * n))) = ((0, 1) : Int × Int) := by rw [← hx]; exact hn
    have q1 : putS (aE.fresh (2 * n)) = (0 : Int) := congrArg Prod.fst hn2
    have q2 : putG (aE.fresh (2 * n)) = (1 : Int) := congrArg Prod.snd hn2
    rw [q1, q2] at t1 t2
    refine ⟨?_, ?_, fun e he => ?_⟩
    · show findE (linkM _ _).xs 0 1 = 0
      rw [p1, hx]; exact t1
    · show getX (linkM _ _).xs 0 1 = _
      rw [p1, hx]; exact t2
    · rw [e8] at he; cases he
end Go.Proofs.YtalhlopjaijhcaaGreat

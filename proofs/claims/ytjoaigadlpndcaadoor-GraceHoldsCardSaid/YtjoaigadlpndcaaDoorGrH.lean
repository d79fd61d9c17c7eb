/-
  GraceHolds, plain: what is told, and what a ticket is over for, has no section left that was open then.
-/
import Derived.Test.YtjoaigadlpndcaaDoorGrL
namespace Go.Proofs.YtjoaigadlpndcaaDoor

/-- Of a picture: whatever still is as it was, the scan waits for. -/
def Wt (x : SS) (s : Sc) (was : Nat → Int) : Prop := ∀ r, r < 64 → 0 < was r → x.s r = was r → s.p r = true ∧ was r ≤ s.t
def dnH (l : LS) : Int := if l.sc.isSome = true then l.gen - 1 else l.gen
/-- Behind k acts: pictures, who is called and told, tickets. -/
structure PI (k : Nat) (l : LS) (at' : Nat → Nat → Int) (tf kf : Nat → Int) : Prop where
  ids : ∀ z ∈ catI l.A 4 ++ catI l.B 4, ∃ n : Nat, z = (n : Int) ∧ n < k ∧ tf n = 1
  nd : (catI l.A 4 ++ catI l.B 4).Nodup
  wt : ∀ s, l.sc = some s → ∀ n : Nat, (n : Int) ∈ catI l.A 4 → Wt l.x s (at' n)
  bd : ∀ n r, r < 64 → at' n r ≤ l.x.n
  kl : ∀ n, kf n ≤ l.gen + 1
  kr : ∀ s, l.sc = some s → ∀ n, 0 < kf n → kf n = l.gen → Wt l.x s (at' n)
  ko : ∀ n, 0 < kf n → kf n ≤ dnH l → endedB l.x (at' n) = true
  kz : ∀ n, k ≤ n → kf n = 0
theorem PI.zero : PI 0 lZ (fun _ _ => 0) (fun _ => 0) (fun _ => 0) := by
  have hA : catI lZ.A 4 = [] := catI_nil 4
  have hB : catI lZ.B 4 = [] := catI_nil 4
  refine ⟨?_, ?_, fun s e => (by cases e), fun _ _ _ => by decide, fun _ => by decide, fun s e => (by cases e), fun _ h => (by simp at h), fun _ _ => rfl⟩
  · rw [hA, hB]; simp
  · rw [hA, hB]; exact List.nodup_nil
/-- Sections that go on: what is as it was, was so before. -/
def Goes (x y : SS) : Prop := x.n ≤ y.n ∧ ∀ i v, 0 < v → v ≤ x.n → y.s i = v → x.s i = v
theorem Goes.refl (x : SS) : Goes x x := ⟨Int.le_refl _, fun _ _ _ _ h => h⟩
theorem goes_enter (x : SS) (r : Int) : Goes x (enterS x r) := by
  refine ⟨(enter_n x r).1, fun i v h0 hv h => ?_⟩
  unfold enterS at h
  split at h
  · rw [inS_s] at h
    split at h
    · omega
    · exact h
  · exact h
theorem goes_exit (x : SS) (r : Int) : Goes x (exitS x r) := by
  refine ⟨by rw [exit_n]; exact Int.le_refl _, fun i v h0 hv h => ?_⟩
  unfold exitS at h
  split at h
  · rw [outS_s] at h
    split at h
    · omega
    · exact h
  · exact h
theorem Wt.goes {x y : SS} (hg : Goes x y) {s : Sc} {was : Nat → Int} (hb : ∀ r, r < 64 → was r ≤ x.n) (h : Wt x s was) : Wt y s was := fun r hr h0 h1 => h r hr h0 (hg.2 r _ h0 (hb r hr) h1)
theorem ended_goes {x y : SS} (hg : Goes x y) {was : Nat → Int} (hb : ∀ r, r < 64 → was r ≤ x.n) (h : endedB x was = true) : endedB y was = true :=
  ended_true.2 fun r hr hh => ended_true.1 h r hr ⟨hh.1, hg.2 r _ hh.1 (hb r hr) hh.2⟩
section
variable {k : Nat} {l : LS} {at' : Nat → Nat → Int} {tf kf : Nat → Int}
theorem PI.sect (h : PI k l at' tf kf) {y : SS} (hg : Goes l.x y) : PI (k + 1) ⟨y, l.A, l.B, l.gen, l.wnt, l.sc⟩ at' tf kf := by
  refine ⟨fun z hz => ?_, h.nd, fun s e n hn => (h.wt s e n hn).goes hg (h.bd n), fun n r hr => Int.le_trans (h.bd n r hr) hg.1, h.kl, fun s e n h0 hn => (h.kr s e n h0 hn).goes hg (h.bd n), fun n h0 hn => ended_goes hg (h.bd n) (h.ko n h0 hn), fun n hn => h.kz n (by omega)⟩
  obtain ⟨n, e1, e2, e3⟩ := h.ids z hz
  exact ⟨n, e1, by omega, e3⟩
/-- One more picture. -/
def putA (at' : Nat → Nat → Int) (k : Nat) (f : Nat → Int) : Nat → Nat → Int := fun n => if n = k then f else at' n
theorem PI.add (h : PI k l at' tf kf) (hG : GS l.x) {c : Nat} (hc : c < 4) : PI (k + 1) (l.add c (k : Int)) (putA at' k l.x.s) (putF tf k 1) kf := by
  have hp : (catI l.A 4 ++ catI (addI l.B c (k : Int)) 4).Perm ((k : Int) :: (catI l.A 4 ++ catI l.B 4)) := ((catI_add l.B c (k : Int) 4 hc).append_left _).trans List.perm_middle
  have hlt : ∀ z ∈ catI l.A 4 ++ catI l.B 4, ∃ n : Nat, z = (n : Int) ∧ n < k := fun z hz => by
    obtain ⟨n, e1, e2, _⟩ := h.ids z hz
    exact ⟨n, e1, e2⟩
  have hat : ∀ n, n ≠ k → putA at' k l.x.s n = at' n := fun n e => if_neg e
  have hak : putA at' k l.x.s k = l.x.s := if_pos rfl
  refine ⟨fun z hz => ?_, ?_, fun s e n hn => ?_, fun n r hr => ?_, h.kl, fun s e n h0 hn => ?_, fun n h0 hn => ?_, fun n hn => h.kz n (by omega)⟩
  · rcases List.mem_cons.1 (hp.mem_iff.1 hz) with h1 | h1
    · exact ⟨k, h1, by omega, putF_same _ _ _⟩
    · obtain ⟨n, e1, e2, e3⟩ := h.ids z h1
      exact ⟨n, e1, by omega, by rw [putF_other _ _ (by omega)]; exact e3⟩
  · refine hp.nodup_iff.2 (List.nodup_cons.2 ⟨fun hm => ?_, h.nd⟩)
    obtain ⟨n, e1, e2⟩ := hlt _ hm
    omega
  · have hn' : (n : Int) ∈ catI l.A 4 := hn
    obtain ⟨m, e1, e2⟩ := hlt _ (List.mem_append_left _ hn')
    rw [hat n (by omega)]
    exact h.wt s e n hn'
  · show putA at' k l.x.s n r ≤ l.x.n
    by_cases e : n = k
    · rw [e, hak]; exact hG.sn r
    · rw [hat n e]; exact h.bd n r hr
  · by_cases e2 : n = k
    · rw [e2, h.kz k (by omega)] at h0; omega
    · rw [hat n e2]; exact h.kr s e n h0 hn
  · by_cases e2 : n = k
    · rw [e2, h.kz k (by omega)] at h0; omega
    · rw [hat n e2]; exact h.ko n h0 hn
theorem PI.tik (h : PI k l at' tf kf) (hl : LI l) (hG : GS l.x) : PI (k + 1) l.tik (putA at' k l.x.s) tf (putF kf k (l.gen + 1)) ∧ dnH l.tik < l.gen + 1 := by
  have hat : ∀ n, n ≠ k → putA at' k l.x.s n = at' n := fun n e => if_neg e
  have hak : putA at' k l.x.s k = l.x.s := if_pos rfl
  have hd : dnH l.tik < l.gen + 1 := by unfold dnH; show (if l.sc.isSome = true then l.gen - 1 else l.gen) < l.gen + 1; split <;> omega
  have hlt : ∀ z ∈ catI l.A 4 ++ catI l.B 4, ∃ n : Nat, z = (n : Int) ∧ n < k := fun z hz => by
    obtain ⟨n, e1, e2, _⟩ := h.ids z hz
    exact ⟨n, e1, e2⟩
  refine ⟨⟨fun z hz => ?_, h.nd, fun s e n hn => ?_, fun n r hr => ?_, fun n => ?_, fun s e n h0 hn => ?_, fun n h0 hn => ?_, fun n hn => ?_⟩, hd⟩
  · obtain ⟨n, e1, e2, e3⟩ := h.ids z hz
    exact ⟨n, e1, by omega, e3⟩
  · have hn' : (n : Int) ∈ catI l.A 4 := hn
    obtain ⟨m, e1, e2⟩ := hlt _ (List.mem_append_left _ hn')
    rw [hat n (by omega)]
    exact h.wt s e n hn'
  · show putA at' k l.x.s n r ≤ l.x.n
    by_cases e : n = k
    · rw [e, hak]; exact hG.sn r
    · rw [hat n e]; exact h.bd n r hr
  · show putF kf k (l.gen + 1) n ≤ l.gen + 1
    by_cases e : n = k
    · rw [e, putF_same]; exact Int.le_refl _
    · rw [putF_other _ _ e]; exact h.kl n
  · have hn' : putF kf k (l.gen + 1) n = l.gen := hn
    by_cases e2 : n = k
    · rw [e2, putF_same] at hn'; omega
    · rw [putF_other _ _ e2] at hn' h0
      rw [hat n e2]; exact h.kr s e n h0 hn'
  · by_cases e2 : n = k
    · rw [e2, putF_same] at hn; omega
    · rw [putF_other _ _ e2] at hn h0
      rw [hat n e2]; exact h.ko n h0 hn
  · show putF kf k (l.gen + 1) n = 0
    rw [putF_other _ _ (by omega)]; exact h.kz n (by omega)

/-- Who is told is called, and has its sections over. -/
theorem live_at {x : SS} (hG : GS x) {t : Int} {r : Nat} (hr : r < 64) {v : Int} (h0 : 0 < v) (hv : v ≤ t) (hs : x.s r = v) : endF t x (r : Int) = false := by
  unfold endF endB
  rw [sOf_at x hr, hs, decide_eq_false (by omega), decide_eq_false (by omega)]
  rfl
theorem wt_done {s : Sc} (hG : GS l.x) {was : Nat → Int} (h : Wt l.x s was) (hc : cntN (leftL l s) 64 = 0) : endedB l.x was = true :=
  ended_true.2 fun r hr hh => by
    obtain ⟨h1, h2⟩ := h r hr hh.1 hh.2
    have h3 := cntN_zero.1 hc r hr
    rw [leftL_is, pollL_stays h1 (live_at hG hr hh.1 h2 hh.2)] at h3
    cases h3
theorem wt_left {s : Sc} (hG : GS l.x) {was : Nat → Int} (h : Wt l.x s was) : Wt l.x ⟨s.c, s.t, leftL l s, pollP s.P s.p 16⟩ was := fun r hr h0 h1 => by
  obtain ⟨h2, h3⟩ := h r hr h0 h1
  exact ⟨by show leftL l s r = true; rw [leftL_is]; exact pollL_stays h2 (live_at hG hr h0 h3 h1), h3⟩
/-- Who is told has 2. -/
def toldF (tf : Nat → Int) (O : List Int) : Nat → Int := fun n => if (n : Int) ∈ O then 2 else tf n
theorem PI.told (h : PI k l at' tf kf) (hG : GS l.x) : ∀ z ∈ outL 4 l, ∃ n : Nat, z = (n : Int) ∧ n < k ∧ tf n = 1 ∧ endedB l.x (at' n) = true := by
  intro z hz
  rcases end_ways 4 l with ⟨_, e2, _⟩ | ⟨s, hs, hc, _, e2⟩ | ⟨s, _, _, _, e2⟩
  · rw [e2] at hz; cases hz
  · rw [e2] at hz
    obtain ⟨n, e3, e4, e5⟩ := h.ids z (List.mem_append_left _ hz)
    exact ⟨n, e3, e4, e5, wt_done hG (h.wt s hs n (by rw [← e3]; exact hz)) hc⟩
  · rw [e2] at hz; cases hz
theorem PI.nodup (h : PI k l at' tf kf) : (outL 4 l).Nodup := by
  rcases end_ways 4 l with ⟨_, e2, _⟩ | ⟨s, _, _, _, e2⟩ | ⟨s, _, _, _, e2⟩
  · rw [e2]; exact List.nodup_nil
  · rw [e2]; exact (List.nodup_append.1 h.nd).1
  · rw [e2]; exact List.nodup_nil
theorem dn_tik (l : LS) : dnH l ≤ l.gen := by unfold dnH; split <;> omega
theorem PI.end (h : PI k l at' tf kf) (hG : GS l.x) : PI k (endL l) at' (toldF tf (outL 4 l)) kf := by
  rcases end_ways 4 l with ⟨e1, e2, _⟩ | ⟨s, hs, hc, e1, e2⟩ | ⟨s, hs, hc, e1, e2⟩
  · rw [e1, e2]
    have : toldF tf [] = tf := by funext n; simp [toldF]
    rw [this]; exact h
  · rw [e1, e2]
    have hdj := List.nodup_append.1 h.nd
    refine ⟨fun z hz => ?_, ?_, fun s e => (by cases e), h.bd, h.kl, fun s e => (by cases e), fun n h0 hn => ?_, h.kz⟩
    · have hz' : z ∈ catI l.B 4 := by
        have : z ∈ catI nilI 4 ++ catI l.B 4 := hz
        rwa [catI_nil, List.nil_append] at this
      obtain ⟨n, e3, e4, e5⟩ := h.ids z (List.mem_append_right _ hz')
      refine ⟨n, e3, e4, ?_⟩
      unfold toldF
      rw [if_neg (fun hm => hdj.2.2 _ hm _ hz' e3.symm)]
      exact e5
    · show (catI nilI 4 ++ catI l.B 4).Nodup
      rw [catI_nil, List.nil_append]
      exact hdj.2.1
    · have hn' : kf n ≤ l.gen := hn
      by_cases e : kf n = l.gen
      · exact wt_done hG (h.kr s hs n h0 e) hc
      · refine h.ko n h0 ?_
        unfold dnH
        rw [hs]
        show kf n ≤ l.gen - 1
        omega
  · rw [e1, e2]
    have ht : toldF tf [] = tf := by funext n; simp [toldF]
    rw [ht]
    refine ⟨h.ids, h.nd, fun s' e n hn => ?_, h.bd, h.kl, fun s' e n h0 hn => ?_, fun n h0 hn => ?_, h.kz⟩
    · simp only [Option.some.injEq] at e; subst e; exact wt_left hG (h.wt s hs n hn)
    · simp only [Option.some.injEq] at e; subst e; exact wt_left hG (h.kr s hs n h0 hn)
    · refine h.ko n h0 ?_
      have hn' : kf n ≤ l.gen - 1 := hn
      unfold dnH
      rw [hs]
      exact hn'
theorem PI.beg (h : PI k l at' tf kf) (hl : LI l) (hG : GS l.x) (c : Nat) : PI k (begL c 4 l) at' tf kf := by
  rcases beg_ways c 4 l with ⟨_, hs, e⟩ | ⟨_, e⟩
  · have hA := hl.idle hs
    have hn := h.nd
    have hi := h.ids
    rw [hA, catI_nil, List.nil_append] at hn hi
    have hw : ∀ n, Wt l.x ⟨c, l.x.n, inP l.x, 0⟩ (at' n) := fun n r hr h0 h1 => by
      refine ⟨?_, h.bd n r hr⟩
      show inP l.x r = true
      rw [inP_iff, hG.op r, h1]
      exact h0
    rw [e]
    refine ⟨?_, ?_, fun s e n _ => ?_, h.bd, fun n => ?_, fun s e n _ _ => ?_, fun n h0 hd => ?_, h.kz⟩
    · dsimp only; rw [catI_nil, List.append_nil]; exact hi
    · dsimp only; rw [catI_nil, List.append_nil]; exact hn
    · simp only [Option.some.injEq] at e; subst e; exact hw n
    · have := h.kl n; show kf n ≤ l.gen + 1 + 1; omega
    · simp only [Option.some.injEq] at e; subst e; exact hw n
    · refine h.ko n h0 ?_
      have hd' : kf n ≤ l.gen + 1 - 1 := hd
      unfold dnH
      rw [hs]
      show kf n ≤ l.gen
      omega
  · rw [e]; exact h
theorem PI.poll (h : PI k l at' tf kf) (hl : LI l) (hG : GS l.x) (c : Nat) : PI (k + 1) (pollLS c 4 l) at' (toldF tf (outL 4 l)) kf := by
  have h1 := (h.end hG).beg (end_dm hl 4).2.2 (by rw [(end_B l).2.1]; exact hG) c
  refine ⟨fun z hz => ?_, h1.nd, h1.wt, h1.bd, h1.kl, h1.kr, h1.ko, fun n hn => h1.kz n (by omega)⟩
  obtain ⟨n, e1, e2, e3⟩ := h1.ids z hz
  exact ⟨n, e1, by omega, e3⟩
end
end Go.Proofs.YtjoaigadlpndcaaDoor

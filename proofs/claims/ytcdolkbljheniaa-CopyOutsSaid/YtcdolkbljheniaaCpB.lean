/-
  A copy in a block of six cells; Over, Tries, Page, Bytes.
-/
import Derived.Test.YtcdolkbljheniaaCpA
namespace Go.Proofs.Ytcdolkbljheniaa
open Go.RowKit

/-- What is done at its end: nothing when it is over; else a function with two boxes. -/
def endOf (z : CZ) (k1 k2 : Nat) : Value := if z.over then .nilFunc else .func (.func (if z.out then 34 else 32)) #[] #[.pointer (some ⟨k1, 0, none⟩), .pointer (some ⟨k2, 0, none⟩)]
/-- Bytes that lie behind L, and not in c. -/
def Far (w : World) (L D c : Nat) (v : Option Addr) (cap : Nat) (l : List Int) : Prop := BytesAt w v l ∧ (∀ y, v = some y → L ≤ y.block ∧ y.block < w.heap.size ∧ y.block ≠ c ∧ y.block ≠ D) ∧ (v = none → cap = 0)
theorem Far.ch {w w' : World} {S : List Nat} {L D c : Nat} {v : Option Addr} {cap : Nat} {l : List Int} (h : Far w L D c v cap l) (hc : Ch S w w') (hS : ∀ k ∈ S, k < L ∨ k = c ∨ k = D) : Far w' L D c v cap l :=
  ⟨h.1.ch hc (fun y e hm => by have := h.2.1 y e; have := hS _ hm; omega), fun y e => by have := h.2.1 y e; have := hc.size; omega, h.2.2⟩
theorem NB.form2 {w : World} {lo : Nat} {v : Value} {l : List Int} (h : NB w lo v l) : ∃ a cap, v = .slice a l.length cap ∧ BytesAt w a l ∧ (∀ y, a = some y → lo ≤ y.block ∧ y.block < w.heap.size) ∧ (a = none → cap = 0) := by
  obtain ⟨a, cap, rfl, h1, h2⟩ := h.form
  refine ⟨a, cap, rfl, h1, h2, fun e => ?_⟩
  subst e
  unfold NB at h
  rcases h.2 with ⟨h3, _⟩ | ⟨g, cp, cur, h3, _⟩
  · simpa using (Value.slice.inj h3).2.2
  · cases h3
/-- append([]byte(nil), x...): bytes of the call's own. -/
theorem wpList_bytes {w : World} {ops : Array Oper} {rest : List Oper} {o : Oper} {a : Act} {Q : Exit → Act → World → Prop} (hgd : o.guard = none) (s x : Operand)
    (ho : o.op = .call { callee := .builtin .append, args := #[s, x], argTypes := #[23, 23] }) (hs : a.eval s = .slice none 0 0)
    (v : Option Addr) (n cap : Nat) (l : List Int) (hx : a.eval x = .slice v n cap) (hl : l.length = n) (hn : n ≤ 1000) (hb : BytesAt w v l) (hnn : v = none → cap = 0)
    (h : ∀ v' cp w', BytesAt w' v' l → (∀ y, v' = some y → w.heap.size ≤ y.block ∧ y.block < w'.heap.size) → (v' = none → cp = 0) → Ch [] w w' → wpList Try.prog ops Q rest (a.put o.dst (.slice v' n cp)) w') : wpList Try.prog ops Q (o :: rest) a w := by
  obtain ⟨i0, hI, hz0, hz1, hz2⟩ : ∃ i : TypeInfo, Try.prog.info? 5 = some i ∧ i.zero = some (.int .u8 0) ∧ i.size = 1 ∧ i.bytes = 1 := by
    refine ⟨_, rfl, by kernel_rfl, by kernel_rfl, by kernel_rfl⟩
  cases v with
  | none =>
    obtain rfl := hnn rfl
    have hl0 : l = [] := by rcases hb with h0 | ⟨_, _, h0, _⟩; exact h0; cases h0
    subst hl0
    obtain rfl : n = 0 := by simpa using hl.symm
    exact wpList_append_own_none hgd s x 23 ho w.heap.size 5 i0 1 Try.underlying23 hI (.slice none 0 0) 0 [] hs (World.ownsRow_nil _ _ _ _) hx (h none 0 w (.inl rfl) (by simp) (by simp) (Ch.refl _ _))
  | some ad =>
    refine wpList_append_own w hgd s x 23 ho w.heap.size 5 i0 (.int .u8 0) 1 1 Try.underlying23 hI hz0 hz1 hz2 rfl (by decide) (.slice none 0 0) 0 [] hs (World.ownsRow_nil _ _ _ _) ad n cap (u8s l) hx (by rw [u8s_len]; omega) ?_ (u8s_one l) (by unfold maxLen; omega) (by omega) (Nat.le_refl _) ?_
    · intro j u hj
      have hjl : j < l.length := by have := (List.getElem?_eq_some_iff.1 hj).1; rwa [u8s_len] at this
      rcases hb with rfl | ⟨B, off, e, hc⟩
      · simp at hjl
      · cases e
        rw [addr_add, hc j hjl, ← hj]
        simp [u8s, hjl]
    · intro v' w' hown hgrow _
      have hc : Ch [] w w' := (Ch.refl [] w).kept hgrow (by simp [Value.ownBlock])
      have hnb : NB w' w.heap.size v' l := by unfold NB; rw [hl]; simpa using hown
      obtain ⟨p, cp, rfl, h1, h2, h3⟩ := hnb.form2
      rw [hl]
      exact h p cp w' h1 h2 h3 hc
structure EndAt (w : World) (L D c : Nat) (z : CZ) (k1 k2 : Nat) : Prop where
  l1 : L ≤ k1
  l2 : L ≤ k2
  n1 : k1 ≠ c
  n2 : k2 ≠ c
  n3 : k1 ≠ D
  n4 : k2 ≠ D
  a0 : w.cell? ⟨k1, 0, none⟩ = some (.int .i64 z.a)
  inn : z.out = false → w.cell? ⟨k1, 1, none⟩ = some (.int .i64 (z.n : Int)) ∧ w.cell? ⟨k2, 0, none⟩ = some (.int .i64 (z.n : Int))
  outn : z.out = true → ∃ v cap, w.cell? ⟨k2, 0, none⟩ = some (.slice v z.n cap) ∧ Far w L D c v cap z.bs
theorem EndAt.ch {w w' : World} {S : List Nat} {L D c : Nat} {z : CZ} {k1 k2 : Nat} (h : EndAt w L D c z k1 k2) (hc : Ch S w w') (hS : ∀ k ∈ S, k < L ∨ k = c ∨ k = D) : EndAt w' L D c z k1 k2 := by
  have m1 : k1 ∉ S := fun hm => by have := hS _ hm; have := h.l1; have := h.n1; have := h.n3; omega
  have m2 : k2 ∉ S := fun hm => by have := hS _ hm; have := h.l2; have := h.n2; have := h.n4; omega
  refine ⟨h.l1, h.l2, h.n1, h.n2, h.n3, h.n4, (hc.cell (p := ⟨k1, 0, none⟩) (cell_lt h.a0) m1).trans h.a0, fun e => ?_, fun e => ?_⟩
  · obtain ⟨i1, i2⟩ := h.inn e
    exact ⟨(hc.cell (p := ⟨k1, 1, none⟩) (cell_lt i1) m1).trans i1, (hc.cell (p := ⟨k2, 0, none⟩) (cell_lt i2) m2).trans i2⟩
  · obtain ⟨v, cap, i1, i2⟩ := h.outn e
    exact ⟨v, cap, (hc.cell (p := ⟨k2, 0, none⟩) (cell_lt i1) m2).trans i1, i2.ch hc hS⟩
/-- A copy in block c; all that is its own lies from L on. -/
structure CC (w : World) (L D c : Nat) (z : CZ) : Prop where
  lo : L ≤ c
  hD : D < w.heap.size
  c0 : w.cell? ⟨c, 0, none⟩ = some (.int .i64 z.a)
  c1 : w.cell? ⟨c, 1, none⟩ = some (.int .i64 (z.n : Int))
  c2 : ∃ v cap, w.cell? ⟨c, 2, none⟩ = some (.slice v z.bs.length cap) ∧ Far w L D c v cap z.bs
  c3 : ∃ k1 k2, w.cell? ⟨c, 3, none⟩ = some (endOf z k1 k2) ∧ (z.over = false → EndAt w L D c z k1 k2)
  c4 : w.cell? ⟨c, 4, none⟩ = some (.int .i64 z.page)
  c5 : w.cell? ⟨c, 5, none⟩ = some (.int .i64 (z.t : Int))
  fr : ∀ k, w.frozen? ⟨c, k, none⟩ = false
  ha : z.a ≤ 9223372036854775807
  hn : z.n ≤ 64
  hb : z.bs.length ≤ 64
  ho : z.out = true → z.bs.length = z.n
section
variable {w w' : World} {L D c : Nat} {z : CZ}
theorem CC.lt (h : CC w L D c z) : c < w.heap.size := cell_lt h.c0
theorem CC.ch2 {S : List Nat} (h : CC w L D c z) (hc : Ch S w w') (m : c ∉ S) (hS : ∀ k ∈ S, k < L ∨ k = D) : CC w' L D c z := by
  have hS2 : ∀ k ∈ S, k < L ∨ k = c ∨ k = D := fun k hk => (hS k hk).imp id .inr
  refine ⟨h.lo, Nat.lt_of_lt_of_le h.hD hc.size, (hc.cell (p := ⟨c, 0, none⟩) h.lt m).trans h.c0, (hc.cell (p := ⟨c, 1, none⟩) h.lt m).trans h.c1, ?_, ?_, (hc.cell (p := ⟨c, 4, none⟩) h.lt m).trans h.c4, (hc.cell (p := ⟨c, 5, none⟩) h.lt m).trans h.c5, fun k => (hc.frozen (p := ⟨c, k, none⟩) h.lt m).trans (h.fr k), h.ha, h.hn, h.hb, h.ho⟩
  · obtain ⟨v, cap, h1, h2⟩ := h.c2
    exact ⟨v, cap, (hc.cell (p := ⟨c, 2, none⟩) h.lt m).trans h1, h2.ch hc hS2⟩
  · obtain ⟨k1, k2, h1, h2⟩ := h.c3
    exact ⟨k1, k2, (hc.cell (p := ⟨c, 3, none⟩) h.lt m).trans h1, fun e => (h2 e).ch hc hS2⟩
theorem CC.ch {S : List Nat} (h : CC w L D c z) (hc : Ch S w w') (hS : ∀ k ∈ S, k < L) : CC w' L D c z := h.ch2 hc (fun hm => by have := hS _ hm; have := h.lo; omega) (fun k hk => .inl (hS k hk))
theorem CC.quiet (h : CC w L D c z) (hc : Ch [] w w') : CC w' L D c z := h.ch hc (by simp)
/-- A block that was made since is none of its own. -/
theorem CC.foreign (h : CC w L D c z) {w2 : World} (hc : Ch [] w w2) {d : Nat} (hd : w.heap.size ≤ d) (hd2 : d < w2.heap.size) : CC w2 L d c z := by
  have q := h.quiet hc
  have hsz := hc.size
  obtain ⟨v, cap, h1, h2⟩ := h.c2
  obtain ⟨k1, k2, h3, h4⟩ := h.c3
  have hS : ∀ k ∈ ([] : List Nat), k < L ∨ k = c ∨ k = D := by simp
  have hF : ∀ {v : Option Addr} {cap : Nat} {l : List Int}, Far w L D c v cap l → Far w2 L d c v cap l := fun hf =>
    ⟨(hf.ch hc hS).1, fun y e => by have := hf.2.1 y e; omega, hf.2.2⟩
  refine ⟨q.lo, hd2, q.c0, q.c1, ⟨v, cap, (hc.cell (p := ⟨c, 2, none⟩) h.lt (by simp)).trans h1, hF h2⟩, ⟨k1, k2, (hc.cell (p := ⟨c, 3, none⟩) h.lt (by simp)).trans h3, fun e => ?_⟩, q.c4, q.c5, q.fr, q.ha, q.hn, q.hb, q.ho⟩
  have g := h4 e
  have e1 := cell_lt g.a0
  have e2 : k2 < w.heap.size := by
    cases ho : z.out
    · exact cell_lt (g.inn ho).2
    · obtain ⟨_, _, i1, _⟩ := g.outn ho
      exact cell_lt i1
  have g2 := g.ch hc hS
  refine ⟨g2.l1, g2.l2, g2.n1, g2.n2, by simp at e1; omega, by omega, g2.a0, g2.inn, fun e => ?_⟩
  obtain ⟨v, cap, i1, i2⟩ := g.outn e
  exact ⟨v, cap, (hc.cell (p := ⟨k2, 0, none⟩) (cell_lt i1) (by simp)).trans i1, hF i2⟩
/-- It is tried once more. -/
theorem CC.tick (h : CC w L D c z) (T : Nat) : CC (w.setCell ⟨c, 5, none⟩ (.int .i64 (T : Int))) L D c { z with t := T } := by
  have hc : Ch [c] w (w.setCell ⟨c, 5, none⟩ (.int .i64 (T : Int))) := (Ch.refl _ _).setCell (p := ⟨c, 5, none⟩) (by simp) _
  have hS : ∀ k ∈ [c], k < L ∨ k = c ∨ k = D := by simp
  obtain ⟨v, cap, h1, h2⟩ := h.c2
  obtain ⟨k1, k2, h3, h4⟩ := h.c3
  refine ⟨h.lo, by simpa [World.setCell] using h.hD, setCell_other h.c0 (addr_ne_off (by decide)), setCell_other h.c1 (addr_ne_off (by decide)), ⟨v, cap, setCell_other h1 (addr_ne_off (by decide)), h2.ch hc hS⟩, ⟨k1, k2, setCell_other h3 (addr_ne_off (by decide)), fun e => ?_⟩, setCell_other h.c4 (addr_ne_off (by decide)), setCell_same h.c5, fun k => by simpa using h.fr k, h.ha, h.hn, h.hb, h.ho⟩
  obtain ⟨l1, l2, n1, n2, n3, n4, a0, i1, i2⟩ := (h4 e).ch hc hS
  exact ⟨l1, l2, n1, n2, n3, n4, a0, i1, i2⟩
theorem CC.setPage (h : CC w L D c z) (p : Int) : CC (w.setCell ⟨c, 4, none⟩ (.int .i64 p)) L D c { z with page := p } := by
  have hc : Ch [c] w (w.setCell ⟨c, 4, none⟩ (.int .i64 p)) := (Ch.refl _ _).setCell (p := ⟨c, 4, none⟩) (by simp) _
  have hS : ∀ k ∈ [c], k < L ∨ k = c ∨ k = D := by simp
  obtain ⟨v, cap, h1, h2⟩ := h.c2
  obtain ⟨k1, k2, h3, h4⟩ := h.c3
  refine ⟨h.lo, by simpa [World.setCell] using h.hD, setCell_other h.c0 (addr_ne_off (by decide)), setCell_other h.c1 (addr_ne_off (by decide)), ⟨v, cap, setCell_other h1 (addr_ne_off (by decide)), h2.ch hc hS⟩, ⟨k1, k2, setCell_other h3 (addr_ne_off (by decide)), fun e => ?_⟩, setCell_same h.c4, setCell_other h.c5 (addr_ne_off (by decide)), fun k => by simpa using h.fr k, h.ha, h.hn, h.hb, h.ho⟩
  obtain ⟨l1, l2, n1, n2, n3, n4, a0, i1, i2⟩ := (h4 e).ch hc hS
  exact ⟨l1, l2, n1, n2, n3, n4, a0, i1, i2⟩
/-- It is over, with these bytes. -/
theorem CC.finish (h : CC w L D c z) {l : List Int} {n : Nat} (hl : l.length = n) (h64 : n ≤ 64) (ho : z.out = true → n = z.n) {v : Option Addr} {cap : Nat} (hv : Far w L D c v cap l) :
    CC ((w.setCell ⟨c, 2, none⟩ (.slice v n cap)).setCell ⟨c, 3, none⟩ .nilFunc) L D c { z with bs := l, over := true } := by
  subst hl
  have hc : Ch [c] w ((w.setCell ⟨c, 2, none⟩ (.slice v l.length cap)).setCell ⟨c, 3, none⟩ .nilFunc) := ((Ch.refl _ _).setCell (p := ⟨c, 2, none⟩) (by simp) _).setCell (p := ⟨c, 3, none⟩) (by simp) _
  have hS : ∀ k ∈ [c], k < L ∨ k = c ∨ k = D := by simp
  obtain ⟨v0, cap0, h1, -⟩ := h.c2
  obtain ⟨k1, k2, h3, -⟩ := h.c3
  exact ⟨h.lo, by simpa [World.setCell] using h.hD, setCell_other (setCell_other h.c0 (addr_ne_off (by decide))) (addr_ne_off (by decide)), setCell_other (setCell_other h.c1 (addr_ne_off (by decide))) (addr_ne_off (by decide)), ⟨v, cap, setCell_other (setCell_same h1) (addr_ne_off (by decide)), hv.ch hc hS⟩, ⟨0, 0, setCell_same (setCell_other h3 (addr_ne_off (by decide))), fun e => by cases e⟩, setCell_other (setCell_other h.c4 (addr_ne_off (by decide))) (addr_ne_off (by decide)), setCell_other (setCell_other h.c5 (addr_ne_off (by decide))) (addr_ne_off (by decide)), fun k => by simpa using h.fr k, h.ha, h.hn, h64, ho⟩
end
theorem eq_func (fn : Fn) (fi ca : Array Value) (w : World) : (binOp .eql 79 (.func fn fi ca) .nilFunc).run Try.prog w = .ok (.bool false) w := rfl
theorem eq_nofunc (w : World) : (binOp .eql 79 .nilFunc .nilFunc).run Try.prog w = .ok (.bool true) w := rfl
theorem over_any {w : World} {L D c : Nat} {z : CZ} (h : CC w L D c z) :
    Calls Try.prog 17 #[.pointer (some ⟨c, 0, none⟩)] w fun e w' => e = .returned (.bool z.over) ∧ w = w' := by
  obtain ⟨k1, k2, h3, -⟩ := h.c3
  have q1 := eq_func
  have q2 := eq_nofunc
  cases ho : z.over
  · obtain ⟨fn, fi, ca, he⟩ : ∃ fn fi ca, endOf z k1 k2 = .func fn fi ca := by unfold endOf; rw [ho]; exact ⟨_, _, _, rfl⟩
    rw [he] at h3
    clear h ho he
    go_enter Try.func17, Try.ntmps17
    go_wp2
    go_ret
    exact ⟨rfl, rfl⟩
  · have he : endOf z k1 k2 = .nilFunc := by unfold endOf; rw [ho]; rfl
    rw [he] at h3
    clear h ho he
    go_enter Try.func17, Try.ntmps17
    go_wp2
    go_ret
    exact ⟨rfl, rfl⟩
theorem tries_any {w : World} {L D c : Nat} {z : CZ} (h : CC w L D c z) :
    Calls Try.prog 18 #[.pointer (some ⟨c, 0, none⟩)] w fun e w' => e = .returned (.int .i64 (z.t : Int)) ∧ w = w' := by
  have c5 := h.c5
  clear h
  go_enter Try.func18, Try.ntmps18
  go_wp2
  go_ret
  exact ⟨rfl, rfl⟩
theorem page_any {w : World} {L D c : Nat} {z : CZ} (h : CC w L D c z) :
    Calls Try.prog 16 #[.pointer (some ⟨c, 0, none⟩)] w fun e w' => e = .returned (.tuple #[.int .i64 z.pageOf, .bool z.waits]) ∧ w = w' := by
  have c5 := h.c5
  have c4 := h.c4
  have HO := Lib.hid (over_any h)
  by_cases h0 : z.t = 0
  · have e1 : z.waits = false := by simp [CZ.waits, h0]
    have e2 : z.pageOf = 0 := by simp [CZ.pageOf, e1]
    rw [e1, e2]
    have h0' : ((z.t : Int) == 0) = true := by simp [h0]
    rw [h0] at c5
    clear h h0 e1 e2 HO h0'
    go_enter Try.func16, Try.ntmps16
    go_wp2
    go_ret2
    exact ⟨rfl, rfl⟩
  · have h0' : ((z.t : Int) == 0) = false := by simp [h0]
    cases ho : z.over
    · have e1 : z.waits = true := by simp [CZ.waits, ho]; omega
      have e2 : z.pageOf = z.page := by simp [CZ.pageOf, e1]
      rw [e1, e2]
      rw [ho] at HO
      clear h e1 e2 ho
      go_enter Try.func16, Try.ntmps16
      go_wp2_with (with_reducible refine HO.out.mono ?_; rintro e w' ⟨rfl, rfl⟩)
      go_ret2
      exact ⟨rfl, rfl⟩
    · have e1 : z.waits = false := by simp [CZ.waits, ho]
      have e2 : z.pageOf = 0 := by simp [CZ.pageOf, e1]
      rw [e1, e2]
      rw [ho] at HO
      clear h e1 e2 ho
      go_enter Try.func16, Try.ntmps16
      go_wp2_with (with_reducible refine HO.out.mono ?_; rintro e w' ⟨rfl, rfl⟩)
      go_ret2
      exact ⟨rfl, rfl⟩
theorem bytes_any {w : World} {L D c : Nat} {z : CZ} (h : CC w L D c z) {k : Nat} (hk : z.bs.length = k) :
    Calls Try.prog 20 #[.pointer (some ⟨c, 0, none⟩)] w fun e w' => ∃ v cap, e = .returned (.slice v k cap) ∧ BytesAt w' v z.bs ∧ Ch [] w w' := by
  obtain ⟨v0, cap0, h2, hv⟩ := h.c2
  have hb := h.hb
  rw [hk] at h2 hb
  have HB := Lib.hid hv
  have HK := Lib.hid hk
  clear h hv hk
  go_enter Try.func20, Try.ntmps20
  go_wp2_with (first | (at_builtin; go_must (refine wpList_bytes rfl _ _ rfl rfl v0 k cap0 z.bs rfl HK.out (by omega) HB.out.1 HB.out.2.2 ?_)))
  intro v' cp w' h1 _ _ h4
  have H1 := Lib.hid h1
  have H4 := Lib.hid h4
  clear h1 h4
  go_wp2_with fail
  go_ret
  exact ⟨v', cp, rfl, H1.out, H4.out⟩
end Go.Proofs.Ytcdolkbljheniaa

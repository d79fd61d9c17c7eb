/-
  A domain in memory: its parts, what of it a call may turn; Enter, Exit, Depth, In, Call, Ticket, Gen, Running, Done, Over, Holdouts, Waiting, Barrier.
-/
import Derived.BigQuiet
import Derived.Test.YtjoaigadlpndcaaGreatDoorMgF
import Derived.Test.YtjoaigadlpndcaaGreatDoorMgJ
namespace Go.Proofs.YtjoaigadlpndcaaGreatDoor
open Go.RowKit Go.Shelf
open rC (Th)

/-- A scan that runs: its block, its stamp, who is left, its place. -/
structure Sc where
  c : Nat
  t : Int
  p : Nat → Bool
  P : Nat
/-- A domain: its sections, its callbacks, the last generation, the last one that is wanted, the scan that runs. -/
structure Dm where
  x : SS
  f : Nat → List Th
  gen : Int
  wnt : Int
  sc : Option Sc
def scV : Option Sc → Value
  | none => .pointer none
  | some s => .pointer (some ⟨s.c, 0, none⟩)
/-- A domain's own blocks. -/
def GO (base a : Nat) (sc : Option Sc) (k : Nat) : Prop := (base ≤ k ∧ k ≤ a) ∨ ∃ s, sc = some s ∧ k = s.c
/-- A domain that lies in the blocks from base up to a (sections in b, lists in A), its scan behind L. -/
structure GB (w0 w : World) (base top b A a L n : Nat) (d : Dm) : Prop where
  c0 : w.cell? ⟨a, 0, none⟩ = some (.pointer (some ⟨b, 0, none⟩))
  c1 : w.cell? ⟨a, 1, none⟩ = some (.pointer (some ⟨A, 0, none⟩))
  c2 : w.cell? ⟨a, 2, none⟩ = some (scV d.sc)
  c3 : w.cell? ⟨a, 3, none⟩ = some (.int .i64 d.gen)
  c4 : w.cell? ⟨a, 4, none⟩ = some (.int .i64 d.wnt)
  fr : ∀ k, w.frozen? ⟨a, k, none⟩ = false
  s : SL w0 w b d.x
  l : LC w base top A n d.gen d.f
  lo : w0.heap.size ≤ base
  tb : top ≤ b
  ba : b < a
  al : a < L
  sn : ∀ s, d.sc = some s → Sn w s.c (.pointer (some ⟨b, 0, none⟩)) s.t s.p s.P ∧ L ≤ s.c ∧ s.P < 64
  tab : Mk.Tab w0
section
variable {w0 w w' : World} {base top b A a L n : Nat} {d : Dm}
theorem sec_same {x : SS} (h : Sec w b x) (hs : w'.heap[b]? = w.heap[b]?) : Sec w' b x :=
  have c : ∀ o, w'.cell? ⟨b, o, none⟩ = w.cell? ⟨b, o, none⟩ := fun o => World.cell?_of_block (a := ⟨b, o, none⟩) hs
  ⟨(c _).trans h.c, fun i hi => (c _).trans (h.d i hi), fun i hi => (c _).trans (h.s i hi), fun k => (World.frozen?_of_block (a := ⟨b, k, none⟩) hs).trans (h.fr k)⟩
theorem sn_same {c : Nat} {pt : Value} {t : Int} {p : Nat → Bool} {P : Nat} (h : Sn w c pt t p P) (hs : w'.heap[c]? = w.heap[c]?) : Sn w' c pt t p P :=
  have e : ∀ o, w'.cell? ⟨c, o, none⟩ = w.cell? ⟨c, o, none⟩ := fun o => World.cell?_of_block (a := ⟨c, o, none⟩) hs
  ⟨(e _).trans h.c0, (e _).trans h.c1, (e _).trans h.c2, (e _).trans h.c3, fun k => (World.frozen?_of_block (a := ⟨c, k, none⟩) hs).trans (h.fr k)⟩
theorem chP_ch {T : Nat → Prop} (h : Ch [] w0 w) (hc : ChP T w w') (hT : ∀ k, T k → w0.heap.size ≤ k) : Ch [] w0 w' :=
  .of_below ((h.below w0.heap.size (by simp) (Nat.le_refl _)).trans (hc.below _ hT h.size))
theorem SL.turnP {x : SS} {T : Nat → Prop} (h : SL w0 w b x) (hc : ChP T w w') (hb : ¬ T b) (hT : ∀ k, T k → w0.heap.size ≤ k) : SL w0 w' b x :=
  ⟨sec_same h.s (hc.block b h.s.lt hb), h.g, chP_ch h.ch hc hT, h.lo⟩
theorem Sn.chP {T : Nat → Prop} {c : Nat} {pt : Value} {t : Int} {p : Nat → Bool} {P : Nat} (h : Sn w c pt t p P) (hc : ChP T w w') (hb : ¬ T c) : Sn w' c pt t p P := sn_same h (hc.block c h.lt hb)

theorem GB.base_b (h : GB w0 w base top b A a L n d) : base < b := by
  have hA := h.l.inA
  exact Nat.lt_of_lt_of_le (Nat.lt_of_le_of_lt hA.1 hA.2) h.tb
theorem GB.lt (h : GB w0 w base top b A a L n d) : a < w.heap.size := cell_lt h.c0
theorem GB.oa (h : GB w0 w base top b A a L n d) : GO base a d.sc a := .inl ⟨by have := h.base_b; have := h.ba; omega, Nat.le_refl _⟩
theorem GB.ob (h : GB w0 w base top b A a L n d) : GO base a d.sc b := .inl ⟨by have := h.base_b; omega, Nat.le_of_lt h.ba⟩
theorem GB.ol (h : GB w0 w base top b A a L n d) {k : Nat} (hk : Own base top k) : GO base a d.sc k := .inl ⟨hk.1, by have := hk.2; have := h.tb; have := h.ba; omega⟩
theorem GB.osc (h : GB w0 w base top b A a L n d) {s : Sc} (e : d.sc = some s) : GO base a d.sc s.c := .inr ⟨s, e, rfl⟩
theorem GB.o_lo (h : GB w0 w base top b A a L n d) {k : Nat} (hk : GO base a d.sc k) : w0.heap.size ≤ k := by
  rcases hk with hk | ⟨s, e, rfl⟩
  · have := h.lo; omega
  · have := (h.sn s e).2.1; have := h.al; have := h.ba; have := h.base_b; have := h.lo; omega
theorem GB.sc_ne (h : GB w0 w base top b A a L n d) {s : Sc} (e : d.sc = some s) : s.c < w.heap.size ∧ a < s.c := ⟨(h.sn s e).1.lt, by have := (h.sn s e).2.1; have := h.al; omega⟩
/-- Where only other blocks turn. -/
theorem GB.same {T : Nat → Prop} (h : GB w0 w base top b A a L n d) (hc : ChP T w w') (hT : ∀ k, T k → w0.heap.size ≤ k ∧ ¬ GO base a d.sc k) : GB w0 w' base top b A a L n d := by
  have ha : w'.heap[a]? = w.heap[a]? := hc.block a h.lt (fun e => (hT a e).2 h.oa)
  have e : ∀ o, w'.cell? ⟨a, o, none⟩ = w.cell? ⟨a, o, none⟩ := fun o => World.cell?_of_block (a := ⟨a, o, none⟩) ha
  exact ⟨(e _).trans h.c0, (e _).trans h.c1, (e _).trans h.c2, (e _).trans h.c3, (e _).trans h.c4, fun k => (World.frozen?_of_block (a := ⟨a, k, none⟩) ha).trans (h.fr k),
    h.s.turnP hc (fun e => (hT b e).2 h.ob) (fun k e => (hT k e).1), h.l.chP hc (fun k e o => (hT k e).2 (h.ol o)), h.lo, h.tb, h.ba, h.al,
    fun s e => ⟨(h.sn s e).1.chP hc (fun o => (hT _ o).2 (h.osc e)), (h.sn s e).2⟩, h.tab⟩
theorem GB.quiet (h : GB w0 w base top b A a L n d) (hc : Ch [] w w') : GB w0 w' base top b A a L n d := h.same (T := fun _ => False) (.quiet hc) (fun _ e => e.elim)
/-- The sections turned. -/
theorem GB.sect {y : SS} (h : GB w0 w base top b A a L n d) (hs : SL w0 w' b y) (hc : Ch [b] w w') : GB w0 w' base top b A a L n { d with x := y } := by
  have hP : ChP (fun k => k = b) w w' := .of hc (by simp)
  have hb := h.base_b
  have hba := h.ba
  have ha : w'.heap[a]? = w.heap[a]? := hP.block a h.lt (by omega)
  have e : ∀ o, w'.cell? ⟨a, o, none⟩ = w.cell? ⟨a, o, none⟩ := fun o => World.cell?_of_block (a := ⟨a, o, none⟩) ha
  exact ⟨(e _).trans h.c0, (e _).trans h.c1, (e _).trans h.c2, (e _).trans h.c3, (e _).trans h.c4, fun k => (World.frozen?_of_block (a := ⟨a, k, none⟩) ha).trans (h.fr k),
    hs, h.l.chP hP (fun k e o => by have := o.2; have := h.tb; omega), h.lo, h.tb, h.ba, h.al,
    fun s e => ⟨(h.sn s e).1.chP hP (by have := (h.sc_ne e).2; omega), (h.sn s e).2⟩, h.tab⟩
/-- The lists turned. -/
theorem GB.list {g : Nat → List Th} (h : GB w0 w base top b A a L n d) (hl : LC w' base top A n d.gen g) (hc : ChP (Own base top) w w') : GB w0 w' base top b A a L n { d with f := g } := by
  have htb := h.tb
  have hba := h.ba
  have ha : w'.heap[a]? = w.heap[a]? := hc.block a h.lt (fun o => by have := o.2; omega)
  have e : ∀ o, w'.cell? ⟨a, o, none⟩ = w.cell? ⟨a, o, none⟩ := fun o => World.cell?_of_block (a := ⟨a, o, none⟩) ha
  exact ⟨(e _).trans h.c0, (e _).trans h.c1, (e _).trans h.c2, (e _).trans h.c3, (e _).trans h.c4, fun k => (World.frozen?_of_block (a := ⟨a, k, none⟩) ha).trans (h.fr k),
    h.s.turnP hc (fun o => by have := o.2; omega) (fun k o => by have := o.1; have := h.lo; omega), hl, h.lo, h.tb, h.ba, h.al,
    fun s e => ⟨(h.sn s e).1.chP hc (fun o => by have := o.2; have := (h.sc_ne e).2; omega), (h.sn s e).2⟩, h.tab⟩

theorem sections_any (h : GB w0 w base top b A a L n d) :
    Calls Tryz.prog 33 #[.pointer (some ⟨a, 0, none⟩)] w fun e w' => e = .returned (.pointer (some ⟨b, 0, none⟩)) ∧ w = w' := by
  have c0 := h.c0
  clear h
  go_enter Tryz.func33, Tryz.ntmps33
  go_wp2
  go_ret
  exact ⟨rfl, rfl⟩
theorem GB.depth (h : GB w0 w base top b A a L n d) (r : Int) {v : Int} (hv : dOf d.x r = v) :
    Calls Tryz.prog 17 #[.pointer (some ⟨a, 0, none⟩), .int .i64 r] w fun e w' => e = .returned (.int .i64 v) ∧ w = w' := by
  have H1 := Lib.hid (sections_any h)
  have H2 := Lib.hid (h.s.depth r hv)
  clear h
  go_enter Tryz.func17, Tryz.ntmps17
  go_wp2_with fail
  with_reducible refine H1.out.mono ?_
  rintro e w' ⟨rfl, rfl⟩
  go_wp2_with fail
  with_reducible refine H2.out.mono ?_
  rintro e w' ⟨rfl, rfl⟩
  go_wp2_with fail
  go_ret
  exact ⟨rfl, rfl⟩
theorem GB.in (h : GB w0 w base top b A a L n d) {m : Nat} (hm : mskN (inP d.x) = m) :
    Calls Tryz.prog 19 #[.pointer (some ⟨a, 0, none⟩)] w fun e w' => e = .returned (.int .u64 (m : Int)) ∧ GB w0 w' base top b A a L n d ∧ Ch [] w w' := by
  have H1 := Lib.hid (sections_any h)
  have H2 := Lib.hid (h.s.in hm)
  have H := Lib.hid h
  clear h
  go_enter Tryz.func19, Tryz.ntmps19
  go_wp2_with fail
  with_reducible refine H1.out.mono ?_
  rintro e w' ⟨rfl, rfl⟩
  go_wp2_with fail
  with_reducible refine H2.out.mono ?_
  rintro e w2 ⟨rfl, _, hc⟩
  have HC := Lib.hid hc
  clear hc
  go_wp2_with fail
  go_ret
  exact ⟨rfl, H.out.quiet HC.out, HC.out⟩
theorem GB.exit (h : GB w0 w base top b A a L n d) (r : Int) {u : Bool} {e : Int} (hu : exitB d.x r = u) (he : exitE d.x r = e) :
    Calls Tryz.prog 9 #[.pointer (some ⟨a, 0, none⟩), .int .i64 r] w fun e' w' => e' = .returned (.tuple #[.bool u, .int .i64 e]) ∧ GB w0 w' base top b A a L n { d with x := exitS d.x r } ∧ ChP (GO base a d.sc) w w' := by
  have H1 := Lib.hid (sections_any h)
  have H2 := Lib.hid (h.s.exit r hu he)
  have H := Lib.hid h
  clear h hu he
  go_enter Tryz.func9, Tryz.ntmps9
  go_wp2_with fail
  with_reducible refine H1.out.mono ?_
  rintro e w' ⟨rfl, rfl⟩
  go_wp2_with fail
  with_reducible refine H2.out.mono ?_
  rintro e w2 ⟨rfl, hs, hc⟩
  have HS := Lib.hid hs
  have HC := Lib.hid hc
  clear hs hc
  go_wp2_with fail
  go_ret2
  exact ⟨rfl, H.out.sect HS.out HC.out, .of HC.out (fun k hk => (show k = b from (by simpa using hk)) ▸ H.out.ob)⟩
/-- One reader enters, of a slice that the call has made. -/
theorem GB.enter (h : GB w0 w base top b A a L n d) (r : Int) (hn : d.x.n ≤ 100000) {e : Int} (he : enterE d.x r = e) (t : TypeId) :
    Calls Tryz.prog 7 #[.pointer (some ⟨a, 0, none⟩), .slice (some ⟨w.heap.size, 0, none⟩) 1 1] (w.alloc (.cells #[.int .i64 r] t)) fun e' w' => e' = .returned (.int .i64 e) ∧ GB w0 w' base top b A a L n { d with x := enterS d.x r } ∧ ChP (GO base a d.sc) w w' := by
  have hal := (Ch.refl [] w).alloc (.cells #[.int .i64 r] t)
  have H1 := Lib.hid (sections_any (h.quiet hal))
  have H2 := Lib.hid (h.s.enter r hn he t)
  have H := Lib.hid h
  clear h hal
  go_enter Tryz.func7, Tryz.ntmps7
  go_wp2_with fail
  with_reducible refine H1.out.mono ?_
  rintro e w' ⟨rfl, rfl⟩
  go_wp2_with fail
  with_reducible refine H2.out.mono ?_
  rintro e w2 ⟨rfl, hs, hc⟩
  have HS := Lib.hid hs
  have HC := Lib.hid hc
  clear hs hc
  go_wp2_with fail
  go_ret
  exact ⟨rfl, H.out.sect HS.out HC.out, .of HC.out (fun k hk => (show k = b from (by simpa using hk)) ▸ H.out.ob)⟩
/-- Some callbacks, of a slice of the call's own. -/
theorem GB.call (h : GB w0 w base top b A a L n d) {c : Nat} (hc : c < n) {ad : Option Addr} {cap : Nat} {zs : List Int} (hz : IntsAt w ad zs) (hl : zs.length ≤ cap) (hcap : cap ≤ 9223372036854775807) (hb : zs ≠ [] → ∀ x, ad = some x → ¬ GO base a d.sc x.block) :
    Calls Tryz.prog 11 #[.pointer (some ⟨a, 0, none⟩), .int .i64 (c : Int), .slice ad zs.length cap] w fun e w' =>
      e = .returned (.int .i64 (if 64 < (d.f c).length + zs.length then 3 else 0)) ∧ GB w0 w' base top b A a L n { d with f := updF d.f c ((d.f c ++ zs.map fresh).take 64) } ∧ ChP (GO base a d.sc) w w' := by
  have H2 := Lib.hid (h.l.add hc hz hl hcap (fun e x hx o => hb e x hx (h.ol o)))
  obtain ⟨E, hE⟩ : ∃ E : Int, E = (if 64 < (d.f c).length + zs.length then 3 else 0) := ⟨_, rfl⟩
  rw [← hE] at H2 ⊢
  have H := Lib.hid h
  have c1 := h.c1
  clear h hz hl hcap hb hc hE
  go_enter Tryz.func11, Tryz.ntmps11
  go_wp2_with fail
  with_reducible refine H2.out.mono ?_
  rintro e w2 ⟨rfl, hs, hc⟩
  have HS := Lib.hid hs
  have HC := Lib.hid hc
  clear hs hc
  go_wp2_with fail
  go_ret
  exact ⟨rfl, H.out.list HS.out HC.out, HC.out.mono (fun k o => H.out.ol o)⟩
theorem GB.call_out (h : GB w0 w base top b A a L n d) {i : Int} (hi : i < 0 ∨ (n : Int) ≤ i) (v : Value) :
    Calls Tryz.prog 11 #[.pointer (some ⟨a, 0, none⟩), .int .i64 i, v] w fun e w' => e = .returned (.int .i64 2) ∧ w = w' := by
  have H2 := Lib.hid (h.l.add_out hi v)
  have c1 := h.c1
  clear h hi
  go_enter Tryz.func11, Tryz.ntmps11
  go_wp2_with fail
  with_reducible refine H2.out.mono ?_
  rintro e w2 ⟨rfl, rfl⟩
  go_wp2_with fail
  go_ret
  exact ⟨rfl, rfl⟩
theorem GB.ticket (h : GB w0 w base top b A a L n d) (hg : -1000000 ≤ d.gen ∧ d.gen ≤ 1000000) :
    Calls Tryz.prog 13 #[.pointer (some ⟨a, 0, none⟩)] w fun e w' => e = .returned (.int .i64 (d.gen + 1)) ∧ GB w0 w' base top b A a L n { d with wnt := d.gen + 1 } ∧ ChP (GO base a d.sc) w w' := by
  have H := Lib.hid h
  have c3 := h.c3
  have c4 := h.c4
  have f4 := h.fr 4
  have hw : IntKind.i64.wrap (d.gen + 1) = d.gen + 1 := IntWalk.i64_in _ (by omega)
  have hP : ChP (fun k => k = a) w (w.setCell ⟨a, 4, none⟩ (.int .i64 (d.gen + 1))) := (ChP.refl (fun k => k = a) w).setCell (p := ⟨a, 4, none⟩) (.inl rfl) _
  have hs4 : (w.setCell ⟨a, 4, none⟩ (.int .i64 (d.gen + 1))).cell? ⟨a, 4, none⟩ = some (.int .i64 (d.gen + 1)) := setCell_same c4
  have hfin : GB w0 (w.setCell ⟨a, 4, none⟩ (.int .i64 (d.gen + 1))) base top b A a L n { d with wnt := d.gen + 1 } :=
    ⟨setCell_other h.c0 (addr_ne_off (by decide)), setCell_other h.c1 (addr_ne_off (by decide)), setCell_other h.c2 (addr_ne_off (by decide)), setCell_other h.c3 (addr_ne_off (by decide)), hs4, fun k => by simpa using h.fr k,
      h.s.turnP hP (by have := h.ba; omega) (fun k e => by rw [e]; exact h.o_lo h.oa), h.l.chP hP (fun k e o => by have := o.2; have := h.tb; have := h.ba; omega), h.lo, h.tb, h.ba, h.al,
      fun s e => ⟨(h.sn s e).1.chP hP (by have := (h.sc_ne e).2; omega), (h.sn s e).2⟩, h.tab⟩
  have HF := Lib.hid hfin
  have HP := Lib.hid (hP.mono (T := GO base a d.sc) (fun k e => by rw [e]; exact h.oa))
  clear h hP hfin hs4 hg
  generalize d.gen = g at *
  generalize d.wnt = u at *
  go_enter Tryz.func13, Tryz.ntmps13
  go_wp2_with fail
  go_ret
  exact ⟨rfl, HF.out, HP.out⟩
theorem GB.gen_any (h : GB w0 w base top b A a L n d) {v : Int} (hv : d.gen = v) :
    Calls Tryz.prog 21 #[.pointer (some ⟨a, 0, none⟩)] w fun e w' => e = .returned (.int .i64 v) ∧ w = w' := by
  have c3 := h.c3
  rw [hv] at c3
  clear h hv
  go_enter Tryz.func21, Tryz.ntmps21
  go_wp2
  go_ret
  exact ⟨rfl, rfl⟩
theorem GB.running (h : GB w0 w base top b A a L n d) {u : Bool} (hu : d.sc.isSome = u) :
    Calls Tryz.prog 23 #[.pointer (some ⟨a, 0, none⟩)] w fun e w' => e = .returned (.bool u) ∧ w = w' := by
  have c2 := h.c2
  clear h
  cases hs : d.sc with
  | none =>
    rw [hs] at c2 hu
    subst hu
    simp only [scV] at c2
    clear hs
    go_enter Tryz.func23, Tryz.ntmps23
    go_wp2
    go_ret
    exact ⟨rfl, rfl⟩
  | some s =>
    rw [hs] at c2 hu
    subst hu
    simp only [scV] at c2
    clear hs
    go_enter Tryz.func23, Tryz.ntmps23
    go_wp2
    go_ret
    exact ⟨rfl, rfl⟩
/-- The last generation that is done. -/
def doneV (d : Dm) : Int := if d.sc.isSome = true then d.gen - 1 else d.gen
theorem GB.done (h : GB w0 w base top b A a L n d) (hg : -1000000 ≤ d.gen ∧ d.gen ≤ 1000000) {v : Int} (hv : doneV d = v) :
    Calls Tryz.prog 22 #[.pointer (some ⟨a, 0, none⟩)] w fun e w' => e = .returned (.int .i64 v) ∧ w = w' := by
  unfold doneV at hv
  have c3 := h.c3
  have H2 := Lib.hid (h.gen_any rfl)
  cases hs : d.sc.isSome with
  | true =>
    rw [if_pos hs] at hv
    have H1 := Lib.hid (h.running hs)
    have hw : IntKind.i64.wrap (d.gen - 1) = v := by rw [IntWalk.i64_in _ (by omega)]; exact hv
    clear h hs hv hg H2
    go_enter Tryz.func22, Tryz.ntmps22
    go_wp2_with fail
    with_reducible refine H1.out.mono ?_
    rintro e w' ⟨rfl, rfl⟩
    go_wp2_with fail
    go_ret
    exact ⟨rfl, rfl⟩
  | false =>
    rw [if_neg (by rw [hs]; decide)] at hv
    rw [hv] at H2
    have H1 := Lib.hid (h.running hs)
    clear h hs hv hg c3
    go_enter Tryz.func22, Tryz.ntmps22
    go_wp2_with fail
    with_reducible refine H1.out.mono ?_
    rintro e w' ⟨rfl, rfl⟩
    go_wp2_with fail
    with_reducible refine H2.out.mono ?_
    rintro e w' ⟨rfl, rfl⟩
    go_wp2_with fail
    go_ret
    exact ⟨rfl, rfl⟩
theorem GB.over (h : GB w0 w base top b A a L n d) (hg : -1000000 ≤ d.gen ∧ d.gen ≤ 1000000) (t : Int) {u : Bool} (hu : decide (t ≤ doneV d) = u) :
    Calls Tryz.prog 29 #[.pointer (some ⟨a, 0, none⟩), .int .i64 t] w fun e w' => e = .returned (.bool u) ∧ w = w' := by
  have H1 := Lib.hid (h.done hg rfl)
  subst hu
  clear h hg
  generalize doneV d = v at *
  go_enter Tryz.func29, Tryz.ntmps29
  go_wp2_with fail
  with_reducible refine H1.out.mono ?_
  rintro e w' ⟨rfl, rfl⟩
  go_wp2_with fail
  go_ret
  exact ⟨rfl, rfl⟩
/-- Whom it waits for. -/
def holdP (d : Dm) : Nat → Bool := match d.sc with | none => fun _ => false | some s => s.p
theorem GB.holdouts (h : GB w0 w base top b A a L n d) {m : Nat} (hm : mskN (holdP d) = m) :
    Calls Tryz.prog 24 #[.pointer (some ⟨a, 0, none⟩)] w fun e w' => e = .returned (.int .u64 (m : Int)) ∧ w = w' := by
  have c2 := h.c2
  unfold holdP at hm
  cases hs : d.sc with
  | none =>
    rw [hs] at c2 hm
    simp only [scV] at c2
    have hm0 : (m : Int) = 0 := by rw [← hm, mskN_none (fun _ _ => rfl)]; rfl
    have H1 := Lib.hid (nil_left w)
    rw [hm0]
    clear h hs hm hm0
    go_enter Tryz.func24, Tryz.ntmps24
    go_wp2_with fail
    with_reducible refine H1.out.mono ?_
    rintro e w' ⟨rfl, rfl⟩
    go_wp2_with fail
    go_ret
    exact ⟨rfl, rfl⟩
  | some s =>
    rw [hs] at c2 hm
    simp only [scV] at c2
    have H1 := Lib.hid (left_any (h.sn s hs).1 hm)
    clear h hs hm
    go_enter Tryz.func24, Tryz.ntmps24
    go_wp2_with fail
    with_reducible refine H1.out.mono ?_
    rintro e w' ⟨rfl, rfl⟩
    go_wp2_with fail
    go_ret
    exact ⟨rfl, rfl⟩
theorem GB.waiting (h : GB w0 w base top b A a L n d) {v : Int} (hv : lnI (catL d.f n) = v) :
    Calls Tryz.prog 26 #[.pointer (some ⟨a, 0, none⟩)] w fun e w' => e = .returned (.int .i64 v) ∧ GB w0 w' base top b A a L n d ∧ Ch [] w w' := by
  have c1 := h.c1
  have H1 := Lib.hid h.l.len'
  rw [hv] at H1
  have H := Lib.hid h
  clear h hv
  go_enter Tryz.func26, Tryz.ntmps26
  go_wp2_with fail
  with_reducible refine H1.out.mono ?_
  rintro e w2 ⟨rfl, hb⟩
  have HC := Lib.hid (Ch.of_below (S := []) hb)
  clear hb
  go_wp2_with fail
  go_ret
  exact ⟨rfl, H.out.quiet HC.out, HC.out⟩
/-- The generation behind which all callbacks have been told. -/
def barV (n : Nat) (d : Dm) : Int := if 0 < zcI (catL d.f n) then d.gen + 1 else mxI (catL d.f n)
theorem GB.barrier (h : GB w0 w base top b A a L n d) (hg : -1000000 ≤ d.gen ∧ d.gen ≤ 1000000) {v : Int} (hv : barV n d = v) :
    Calls Tryz.prog 27 #[.pointer (some ⟨a, 0, none⟩)] w fun e w' => e = .returned (.int .i64 v) ∧ GB w0 w' base top b A a L n d ∧ Ch [] w w' := by
  unfold barV at hv
  have c1 := h.c1
  have H1 := Lib.hid h.l.open'
  have H := Lib.hid h
  by_cases hz : 0 < zcI (catL d.f n)
  · rw [if_pos hz] at hv
    have hw : IntKind.i64.wrap (d.gen + 1) = v := by rw [IntWalk.i64_in _ (by omega)]; exact hv
    clear h hg hv
    generalize zcI (catL d.f n) = z at *
    go_enter Tryz.func27, Tryz.ntmps27
    go_wp2_with fail
    with_reducible refine H1.out.mono ?_
    rintro e w2 ⟨rfl, hb⟩
    have HC := Lib.hid (Ch.of_below (S := []) hb)
    have c3 := (H.out.quiet HC.out).c3
    clear hb
    go_wp2_with fail
    go_ret
    exact ⟨rfl, H.out.quiet HC.out, HC.out⟩
  · rw [if_neg hz] at hv
    clear h hg
    have hzf : decide (zcI (catL d.f n) > 0) = false := decide_eq_false hz
    clear hz
    generalize zcI (catL d.f n) = z at *
    go_enter Tryz.func27, Tryz.ntmps27
    go_wp2_with fail
    with_reducible refine H1.out.mono ?_
    rintro e w2 ⟨rfl, hb⟩
    have HC := Lib.hid (Ch.of_below (S := []) hb)
    have H2 := Lib.hid ((H.out.quiet HC.out).l.newest)
    rw [hv] at H2
    have c12 := (H.out.quiet HC.out).c1
    clear hb hv c1
    go_wp2_with fail
    with_reducible refine H2.out.mono ?_
    rintro e w3 ⟨rfl, hb⟩
    have HC2 := Lib.hid (HC.out.trans (Ch.of_below (S := []) hb))
    clear hb
    go_wp2_with fail
    go_ret
    exact ⟨rfl, H.out.quiet HC2.out, HC2.out⟩
end
end Go.Proofs.YtjoaigadlpndcaaGreatDoor

/-
  Done.
  All callbacks: the iterator; Open, Newest, Len.
  Open, Newest, Len.
-/
import Derived.Maps.OwnIn
import Derived.Test.YtjoaigadlpndcaaGreatDoorMgH
namespace Go.Proofs.YtjoaigadlpndcaaGreatDoor
open Go.RowKit Go.Shelf Go.Maps
open rC (Th RL flat tv objT)

attribute [local go_sem] Oper.semAt_some

/-- The marks that loops over functions have left: their blocks lie from B on, and hold no call. -/
def Marks (B : Nat) (w : World) : List Deferred → Prop
  | [] => True
  | d :: ds => (∃ D, B ≤ D ∧ d = { target := .collected D, args := #[] } ∧ w.heap[D]? = some (.deferred (some [])) ∧ ∀ d' ∈ ds, d'.target ≠ .collected D) ∧ Marks B w ds
theorem Marks.keep {B : Nat} {w w' : World} (hk : ∀ (k : Nat) (o : Obj), B ≤ k → w.heap[k]? = some o → o.isCells = false → w'.heap[k]? = some o) : ∀ {ds : List Deferred}, Marks B w ds → Marks B w' ds
  | [], _ => trivial
  | _ :: _, ⟨⟨D, h1, h2, h3, h4⟩, h5⟩ => ⟨⟨D, h1, h2, hk D _ h1 h3 rfl, h4⟩, Marks.keep hk h5⟩
theorem Marks.lt {B : Nat} {w : World} : ∀ {ds : List Deferred}, Marks B w ds → ∀ d ∈ ds, ∀ D, d.target = .collected D → D < w.heap.size
  | [], _ => by simp
  | d :: ds, ⟨⟨D, h1, h2, h3, h4⟩, h5⟩ => by
    intro d' hd' D' e
    rcases List.mem_cons.1 hd' with rfl | hm
    · rw [h2] at e
      cases e
      exact (Array.getElem?_eq_some_iff.1 h3).1
    · exact Marks.lt h5 d' hm D' e
theorem Marks.put {B : Nat} {w : World} {D : Nat} {o' : Obj} : ∀ {ds : List Deferred}, Marks B w ds → (∀ d ∈ ds, d.target ≠ .collected D) → Marks B (w.putObj D o') ds
  | [], _, _ => trivial
  | d :: ds, ⟨⟨D', h1, h2, h3, h4⟩, h5⟩, hn => ⟨⟨D', h1, h2, (World.putObj_heap_other (fun e => hn d (by simp) (by rw [h2, ← e]))).trans h3, h4⟩, Marks.put h5 (fun d hd => hn d (by simp [hd]))⟩
/-- A function that leaves with such marks. -/
theorem leaves_marks {F : Fence} {n : Nat} {P : Program} {fn : Func} {tmps : Array Value} {R : Ending → World → Prop} {B : Nat} {I : World → Prop} (hI : ∀ W D, I W → B ≤ D → W.heap[D]? = some (.deferred (some [])) → I (W.putObj D (.deferred none)))
    (hR : ∀ W, I W → LeavesInM F n P fn tmps R [] .returning W) : ∀ (ds : List Deferred) (w : World), Marks B w ds → I w → LeavesInM F n P fn tmps R ds .returning w
  | [], w, _, h => hR w h
  | d :: ds, w, ⟨⟨D, h1, h2, h3, h4⟩, h5⟩, h => ⟨by simp, .inl ⟨D, _, by rw [h2], run_takeDeferred h3, leaves_marks hI hR ds _ (Marks.put h5 h4) (hI w D h h1 h3)⟩⟩

/-- Whose generation is done, CPU by CPU. -/
def outN (gen : Int) (f : Nat → List Th) (k : Nat) : List Int := (List.range k).flatMap fun i => ((f i).takeWhile (up gen)).map (·.1)
theorem outN_succ (gen : Int) (f : Nat → List Th) (k : Nat) : outN gen f (k + 1) = outN gen f k ++ ((f k).takeWhile (up gen)).map (·.1) := by
  unfold outN; rw [List.range_succ, List.flatMap_append]; simp
theorem outN_len {gen : Int} {f : Nat → List Th} {n : Nat} (h : ∀ i, i < n → (f i).length ≤ 64) : ∀ k, k ≤ n → (outN gen f k).length ≤ k * 64
  | 0, _ => by simp [outN]
  | k + 1, hk => by
    have h1 := outN_len (gen := gen) h k (by omega)
    have h2 := h k (by omega)
    have h3 : ((f k).takeWhile (up gen)).length ≤ (f k).length := (List.takeWhile_prefix _).length_le
    rw [outN_succ, List.length_append, List.length_map]
    omega
abbrev ivs (l : List Int) : List Value := l.map (Value.int .i64)

theorem infoI : (Tryz.prog.info? 3).map (fun i => (i.zero, i.size, i.bytes)) = some (some (.int .i64 0), 1, 8) := by kernel_rfl

section
variable {w : World} {base top A G n : Nat} {last : Int} {R Q : Nat → Nat} {f : Nat → List Th}
theorem CL.put (h : CL w base top A G n last R Q f) {D : Nat} (hD : top ≤ D) (o : Obj) : CL (w.putObj D o) base top A G n last R Q f :=
  h.same (fun k hk => World.putObj_heap_other (by have := hk.2; omega)) (by simpa [World.putObj] using h.hi)
theorem CL.turn {w' : World} {c : Nat} (h : CL w base top A G n last R Q f) (hc : c < n) {l : List Th} (hr : RL w' (R c) (Q c) 64 l) (hs : ∀ k, Own base top k → k ≠ R c → k ≠ Q c → w'.heap[k]? = w.heap[k]?) (hsz : w.heap.size ≤ w'.heap.size) :
    CL w' base top A G n last R Q (updF f c l) := by
  have hQ := h.aq c hc
  have hR := h.qr c hc
  have hga := h.ga
  have sA := hs A h.inA (by omega) (by omega)
  have sG := hs G h.inG (by omega) (by omega)
  refine ⟨h.n1, h.n64, (World.cell?_of_block (a := ⟨A, 0, none⟩) sA).trans h.c0, (World.cell?_of_block (a := ⟨A, 1, none⟩) sA).trans h.c1, (World.frozen?_of_block (a := ⟨A, 1, none⟩) sA).trans h.f1,
    fun i hi => (World.cell?_of_block (a := ⟨G, i, none⟩) sG).trans (h.row i hi), fun i hi => ?_, h.gl, h.ga, h.aq, h.qr, h.mono, h.rt, Nat.le_trans h.hi hsz⟩
  by_cases e : i = c
  · subst e
    rw [updF_same]
    exact hr
  · rw [updF_other f e]
    have h1 := h.qr i hi
    have h2 : R i ≠ R c ∧ R i ≠ Q c ∧ Q i ≠ R c ∧ Q i ≠ Q c := by
      rcases Nat.lt_or_ge i c with h3 | h3
      · have := h.mono i c h3 hc
        omega
      · have := h.mono c i (by omega) hi
        omega
    exact (h.ring i hi).same (hs _ (h.inR hi) h2.1 h2.2.1) (hs _ (h.inQ hi) h2.2.2.1 h2.2.2.2)

/-- What holds while Done goes through the CPUs. -/
structure DS (w : World) (base top A G n : Nat) (last : Int) (R Q : Nat → Nat) (f : Nat → List Th) (gen : Int) (k : Nat) (ds : List Deferred) (wr : World) (v : Value) : Prop where
  box : Boxed wr w.heap.size 48 v
  row : wr.ownsRow w.heap.size 3 1 v (outN gen f k).length (ivs (outN gen f k))
  cl : CL wr base top A G n last R Q (partF k (List.dropWhile (up gen)) f)
  ch : ChP (Own base top) w wr
  mks : Marks w.heap.size wr ds
theorem ownFrom_chP {β : Type} {S : Nat → Prop} {w0 : World} {B : Nat} (hB : w0.heap.size ≤ B) : OwnFrom B (fun (_ : β) W => ChP S w0 W) := fun _ _ _ row hs hg hr =>
  hs.fresh (T := fun j => row = some j) (.grown hg (fun _ e => e)) (fun j e => .inr (Nat.le_trans hB (hr j e).1))
theorem ownFrom_same {β : Type} {T : Nat → Prop} {w0 : World} {B : Nat} (hB : w0.heap.size ≤ B) (hT : ∀ k, T k → k < w0.heap.size) : OwnFrom B (fun (_ : β) W => w0.heap.size ≤ W.heap.size ∧ ∀ k, T k → W.heap[k]? = w0.heap[k]?) := fun _ _ _ row hs hg hr =>
  ⟨Nat.le_trans hs.1 hg.size, fun k hk => (hg.block k (Nat.lt_of_lt_of_le (hT k hk) hs.1) (fun e => by have := (hr k e.symm).1; have := hT k hk; omega)).trans (hs.2 k hk)⟩
def DRel (w : World) (base top A G n : Nat) (last : Int) (R Q : Nat → Nat) (f : Nat → List Th) (gen : Int) (u : Value) (ds : List Deferred) (wr : World) : Prop :=
  ∃ (k : Nat) (v : Value), k ≤ n ∧ u = .int .i64 (k : Int) ∧ DS w base top A G n last R Q f gen k ds wr v
/-- What holds within one CPU. -/
def DI (w wr W0 : World) (base top r q : Nat) (out : List Int) (pre : List Th) (W : World) : Prop :=
  ((∃ v, Boxed W w.heap.size 48 v ∧ W.ownsRow w.heap.size 3 1 v (out ++ pre.map (·.1)).length (ivs (out ++ pre.map (·.1))) ∧ (v.ownBlock ≠ some wr.heap.size ∧ v.ownBlock ≠ some (wr.heap.size + 1))) ∧ ChP (Own base top) w W) ∧
    ((W0.heap.size ≤ W.heap.size ∧ ∀ j, (Own base top j ∧ j ≠ r ∧ j ≠ q) → W.heap[j]? = W0.heap[j]?) ∧ KeepsFrom 0 wr W)
theorem chP_below {S : Nat → Prop} {w W W' : World} (h : ChP S w W) (hb : Below w.heap.size W W') : ChP S w W' :=
  h.fresh (T := fun k => w.heap.size ≤ k) ⟨hb.os, hb.tape, hb.output, hb.size, fun k _ hn => hb.block k (by omega)⟩ (fun _ e => .inr e)

set_option maxRecDepth 100000 in
set_option maxHeartbeats 4000000 in
theorem done_in (m : Nat) (h : CL w base top A G n last R Q f) (gen : Int) :
    CallsIn Fence.wide (m + 6) Tryz.prog 71 #[.pointer (some ⟨A, 0, none⟩), .int .i64 gen] w fun e w' =>
      ∃ v, e = .returned v ∧ w'.ownsRow w.heap.size 3 1 v (outN gen f n).length (ivs (outN gen f n)) ∧ CL w' base top A G n last R Q (fun i => (f i).dropWhile (up gen)) ∧ ChP (Own base top) w w' := by
  have HC := Lib.hid h
  have HO := Lib.hid (outN_len (gen := gen) (f := f) (n := n) (fun i hi => (h.ring i hi).le.1))
  have HTop := Lib.hid h.hi
  have hn64 := h.n64
  have c0 := h.c0
  have hc1 := h.quiet ((Ch.refl [] w).alloc (.cells #[.slice none 0 0] 48))
  have c0' := hc1.c0
  have HC1 := Lib.hid hc1
  have HD0 := Lib.hid (show DS w base top A G n last R Q f gen 0 [] (w.alloc (.cells #[.slice none 0 0] 48)) (.slice none 0 0) from
    ⟨Boxed.new w _ _, ⟨rfl, .inl ⟨rfl, rfl⟩⟩, by rw [partF_zero]; exact hc1, (ChP.refl _ w).alloc _, trivial⟩)
  clear h hc1
  have hw : ∀ f, Fence.wide.fn f := fun _ => trivial
  have hd : Fence.wide.depth = none := rfl
  have h1 : 1 ≤ m + 6 := by omega
  obtain ⟨i0, hi, hz0, hz1, hz2⟩ := info_parts infoI
  refine callsIn_of_wp_marks Tryz.func71 rfl trivial ?_ rfl
  simp only [Tryz.ntmps71, List.size_toArray, List.length_cons, List.length_nil, Nat.reduceAdd, Nat.reduceSub, Array.replicate_succ, Array.replicate_zero, List.push_toArray, List.append_toArray, List.nil_append, List.cons_append]
  gi_wp2_with fail
  refine wpIn_loop (fun a' w' => ∃ (u7 u16 u17 u18 u19 u20 u21 u22 u29 : Value) (ds : List Deferred), DRel w base top A G n last R Q f gen u16 ds w' ∧
      a' = { tmps := [.pointer (some ⟨A, 0, none⟩), .int .i64 gen, undef, undef, .slice none 0 0, .pointer (some ⟨w.heap.size, 0, none⟩), undef, u7, undef, .pointer (some ⟨A, 0, none⟩), .bool false, .pointer (some ⟨A, 0, none⟩), .pointer (some ⟨A, 0, none⟩), .pointer (some ⟨A, 0, none⟩), .slice (some ⟨G, 0, none⟩) n n, .int .i64 (n : Int), u16, u17, u18, u19, u20, u21, u22, undef, undef, undef, undef, undef, undef, u29, undef].toArray, defers := ds })
    (fun a' _ => n - (intOf (a'.tmps.getD 16 undef)).toNat) ?atStart ?round
  case atStart =>
    exact ⟨_, _, _, _, _, _, _, _, _, [], ⟨0, _, Nat.zero_le _, rfl, HD0.out⟩, rfl⟩
  case round =>
    rintro _ wr ⟨u7, u16, u17, u18, u19, u20, u21, u22, u29, ds, ⟨k, v0, hk, rfl, hD⟩, rfl⟩
    dsimp only
    have HD := Lib.hid hD
    by_cases hkn : k < n
    · have cr := hD.cl.row k hkn
      have hring := hD.cl.ring k hkn
      rw [partF_at] at hring
      have HR := Lib.hid hring
      have hlt : (k : Int) < (n : Int) := by omega
      have HK := Lib.hid hkn
      have htop := hD.cl.hi
      have hRo := hD.cl.inR hkn
      have hQo := hD.cl.inQ hkn
      have hsz := hD.ch.size
      have hblt := hD.box.lt
      clear hD hring c0 c0' HD0 HC1
      gi_wp2_with (gi_at_call 82; refine (fronts_in _ _ _ _).mono ?_; rintro e w' ⟨rfl, rfl⟩)
      obtain ⟨W0, hW0⟩ : ∃ W0, W0 = (wr.alloc (.cells #[.pointer (some ⟨R k, 0, none⟩)] 98)).alloc (.cells #[.int .i64 gen] 3) := ⟨_, rfl⟩
      have hs0 : W0.heap.size = wr.heap.size + 1 + 1 := by rw [hW0]; simp
      have hq0 : Ch [] wr W0 := by rw [hW0]; exact ((Ch.refl [] wr).alloc _).alloc _
      have hc1 : W0.cell? ⟨wr.heap.size, 0, none⟩ = some (.pointer (some ⟨R k, 0, none⟩)) := by
        rw [hW0]; exact ((One.new wr (.pointer (some ⟨R k, 0, none⟩)) 98).alloc _).c0
      have hc2 : W0.cell? ⟨wr.heap.size + 1, 0, none⟩ = some (.int .i64 gen) := by
        rw [hW0]; have := (One.new (wr.alloc (.cells #[.pointer (some ⟨R k, 0, none⟩)] 98)) (.int .i64 gen) 3).c0; rwa [World.size_alloc] at this
      rw [← hW0]
      have HQ0 := Lib.hid hq0
      have HR0 := Lib.hid (HR.out.ch hq0 (by simp) (by simp))
      clear hW0 hq0
      have hRQ : wr.heap.size ≠ R k ∧ wr.heap.size ≠ Q k ∧ wr.heap.size + 1 ≠ R k ∧ wr.heap.size + 1 ≠ Q k := by omega
      have HRQ := Lib.hid hRQ
      have HRo := Lib.hid hRo
      have HQo := Lib.hid hQo
      have hol : (outN gen f k).length ≤ 4096 := by
        have h2 := HO.out k hk
        have : k * 64 ≤ 64 * 64 := Nat.mul_le_mul_right _ (by omega)
        omega
      refine wpIn_range_x rfl h1 (gf := 93) (lb := #[.pointer (some ⟨wr.heap.size, 0, none⟩), .pointer (some ⟨wr.heap.size + 1, 0, none⟩)]) rfl trivial (enters_of Tryz.func93 (by kernel_rfl) rfl)
        ?hso (fronts_seq (m + 6 - 1) (S := fun j => j = wr.heap.size ∨ j = wr.heap.size + 1 ∨ j = R k ∨ j = Q k) (.inl rfl) (.inr (.inl rfl)) (.inr (.inr (.inl rfl))) (.inr (.inr (.inr rfl))) HRQ.out W0 hc1 hc2 HR0.out)
        (fun A B' hAB j o hj ho _ => hAB.objs j o hj ho)
        (fun h k => h.trans k) (fun W l o o' _ ho hc _ _ => Keep.put W l o o' ho hc) (fun _ => rfl)
        (DI w wr W0 base top (R k) (Q k) (outN gen f k))
        (fun _ _ _ => False)
        ?own
        ?sta (fun _ _ _ _ _ hs _ _ => hs) ?start objT (fun W x => Keep.alloc W _) (fun _ => rfl)
        (fun x b => { tmps := #[.pointer (some ⟨A, 0, none⟩), .int .i64 gen, undef, undef, .slice none 0 0, .pointer (some ⟨w.heap.size, 0, none⟩), undef, .pointer (some ⟨R k, 0, none⟩), .pointer (some ⟨b, 0, none⟩), .pointer (some ⟨A, 0, none⟩), .bool false, .pointer (some ⟨A, 0, none⟩), .pointer (some ⟨A, 0, none⟩), .pointer (some ⟨A, 0, none⟩), .slice (some ⟨G, 0, none⟩) n n, .int .i64 (n : Int), .int .i64 (k : Int), .bool true, .pointer (some ⟨G, k, none⟩), .pointer (some ⟨R k, 0, none⟩), .pointer (some ⟨R k, 0, none⟩), .int .i64 gen, .func (.func 93) #[] #[.pointer (some ⟨wr.heap.size, 0, none⟩), .pointer (some ⟨wr.heap.size + 1, 0, none⟩)], tv x, undef, undef, undef, undef, undef, u29, undef], defers := [] }) ?assign ?body ?done ?stop
      case own =>
        unfold DI
        exact (OwnFrom.and (OwnFrom.and (Go.Own.from (holdsRow_own w.heap.size w.heap.size 48 3 1 (fun pre : List Th => (outN gen f k ++ pre.map (·.1)).length) (fun pre => ivs (outN gen f k ++ pre.map (·.1))) (fun _ v => v.ownBlock ≠ some wr.heap.size ∧ v.ownBlock ≠ some (wr.heap.size + 1))) _) (ownFrom_chP (by omega)))
          (OwnFrom.and (ownFrom_same (Nat.le_refl _) (fun j hj => by have := hj.1.2; omega)) (ownFrom_keepsFrom (by omega))))
      case hso =>
        rintro s X Y row ⟨e, hr⟩ hg hrow
        have hlo : ∀ r, row = some r → W0.heap.size ≤ r := fun r e => (hrow r e).1
        exact ⟨e, hr.same (hg.block _ hr.lt.1 (fun e => by have := hlo _ e.symm; omega)) (hg.block _ hr.lt.2 (fun e => by have := hlo _ e.symm; omega))⟩
      case start =>
        have hq := HQ0.out
        refine ⟨⟨⟨v0, HD.out.box.kept hq.grown0 (by simp), ?_, ?_, ?_⟩, HD.out.ch.trans (.quiet hq)⟩, ⟨Nat.le_refl _, fun _ _ => rfl⟩, hq.size, fun j o _ hj _ => (hq.block j (Array.getElem?_eq_some_iff.1 hj).1 (by simp)).trans hj⟩
        · simpa using own_ch HD.out.row hq (by simp)
        · intro e; have := (HD.out.row.lt _ e).2; omega
        · intro e; have := (HD.out.row.lt _ e).2; omega
      case sta =>
        rintro s X Y ⟨⟨⟨v, hv, hrow, hv1, hv2⟩, hch⟩, ⟨hsz', hsame⟩, hkf⟩ hc
        have hcp := hc.chP
        refine ⟨⟨⟨v, (hcp.block _ hv.lt (fun e => by have := HTop.out; have := HRo.out.2; have := HQo.out.2; omega)).trans hv, own_chP hrow hcp (fun g hg e => by have := (hrow.lt g hg).1; have := HTop.out; have := HRo.out.2; have := HQo.out.2; omega), hv1, hv2⟩, hch.trans (hcp.mono fun j e => e.elim (fun e => e ▸ HRo.out) (fun e => e ▸ HQo.out))⟩, ⟨Nat.le_trans hsz' hc.size, fun j hj => ?_⟩, Nat.le_trans hkf.size hc.size, fun j o hj0 hj ho => hc.objs j o (hkf.same j o hj0 hj ho) ho⟩
        exact (hcp.block j (by have := hj.1.2; have := HTop.out; omega) (fun e => e.elim hj.2.1 hj.2.2)).trans (hsame j hj)
      case assign =>
        intro l x W K hK
        unfold objT at hK
        unfold tv
        gi_wp2
        exact hK
      case body =>
        rintro l pre x b W ⟨⟨⟨v, hv, hrow, hv1, hv2⟩, hch⟩, ⟨hsz', hsame⟩, hkf⟩ hpre hbo hbx
        have hlen : (outN gen f k ++ pre.map (·.1)).length + 1 ≤ 5000 := by
          have h2 := hpre.length_le
          have h3 : ((partF k (List.dropWhile (up gen)) f k).takeWhile (up gen)).length ≤ (partF k (List.dropWhile (up gen)) f k).length := (List.takeWhile_prefix _).length_le
          rw [partF_at] at h3
          have h4 := HR.out.le.1
          simp at h2 ⊢
          omega
        have hwW := hch.size
        have hc := hv.cell
        obtain ⟨x0, x1⟩ := rC.cells_two hbx
        have HHs := Lib.hid hsame
        have HHk := Lib.hid hkf
        have HHc := Lib.hid hch
        have hN := Lib.hid (show ivs (outN gen f k ++ (pre ++ [x]).map (·.1)) = ivs (outN gen f k ++ pre.map (·.1)) ++ [.int .i64 x.1] ∧ (outN gen f k ++ (pre ++ [x]).map (·.1)).length = (outN gen f k ++ pre.map (·.1)).length + 1 by
          constructor
          · simp [ivs]
          · simp; omega)
        generalize outN gen f k ++ pre.map (·.1) = ys at hrow hlen hN
        clear hsame hkf hch
        unfold tv
        gi_wp2_with (gi_at_builtin; refine wpListIn_append_own_at _ rfl _ _ 48 rfl w.heap.size 3 i0 (.int .i64 0) 1 8 Tryz.underlying48 hi hz0 hz1 hz2 rfl (by decide) _ _ _ rfl (hrow.alloc _) ⟨W.heap.size, 0, none⟩ 1 1 [.int .i64 x.1] rfl rfl (cell_one_new _ _ _) (by simp [Value.oneCell']) (by unfold maxLen; omega) (by omega) (by simp; omega) ?_; intro v' w1 hown' hgrow _ hat; obtain ⟨g', cap', rfl⟩ := ownsRow_succ hown'; obtain ⟨hv1', hv2', hr2, hk2, hb2⟩ := hv.appended (by decide) hrow (by omega) (Nat.le_refl _) hown' hgrow; have hc1 := hv1'.cell; have hf1 := hv1'.frozen)
        have hg2 : (W.alloc (.cells #[.int .i64 x.1] 3)).grownBy w1 v.ownBlock := hgrow
        have hwr : wr.heap.size + 1 + 1 ≤ W.heap.size := by omega
        refine ⟨hk2.from _, rC.chain_keep hg2 (fun r e => ?_) (by have := HRo.out.2; have := HQo.out.2; have := HTop.out; omega) _, ⟨⟨_, hv2', by rw [hN.out.1, hN.out.2]; exact hr2, ?_, ?_⟩, chP_below HHc.out hb2⟩, ⟨Nat.le_trans hsz' hb2.size, fun j hj => (hb2.block j (by have := hj.1.2; have := HTop.out; omega)).trans (HHs.out j hj)⟩, HHk.out.trans (hk2.from _)⟩
        · have hlo := (hrow.lt r e).1
          have := HRo.out.2; have := HQo.out.2; have := HTop.out
          have n1 : r ≠ wr.heap.size := fun e2 => hv1 (by rw [e, e2])
          have n2 : r ≠ wr.heap.size + 1 := fun e2 => hv2 (by rw [e, e2])
          omega
        · intro e
          rcases hat with h9 | h9
          · exact hv1 (h9.symm.trans e)
          · rw [h9] at e; simp at e; omega
        · intro e
          rcases hat with h9 | h9
          · exact hv2 (h9.symm.trans e)
          · rw [h9] at e; simp at e; omega
      case done =>
        rintro D ys W hD0 ⟨rfl, hRL⟩ ⟨⟨⟨v, hv, hrow, hv1, hv2⟩, hch⟩, ⟨hsz', hsame⟩, hkf⟩ hKD
        have HV := Lib.hid hv
        have HRw := Lib.hid hrow
        have HCh := Lib.hid hch
        have HSm := Lib.hid hsame
        have HKf := Lib.hid hkf
        have HKD := Lib.hid hKD
        have HRL := Lib.hid hRL
        clear hv hrow hch hsame hkf hKD hRL
        gi_wp2
        go_roundw
        case rel =>
          refine ⟨k + 1, v, by omega, by go_num, HV.out, by rw [outN_succ]; exact HRw.out, ?_, HCh.out, ⟨D, by omega, rfl, HKD.out, fun d' hd' e => ?_⟩, HD.out.mks.keep (fun j o _ hj ho => HKf.out.same j o (Nat.zero_le _) hj ho)⟩
          · rw [partF_succ]
            refine HD.out.cl.turn HK.out HRL.out (fun j hj h2 h3 => ?_) HKf.out.size
            exact (HSm.out j ⟨hj, h2, h3⟩).trans (HQ0.out.block j (by have := hj.2; omega) (by simp))
          · have := HD.out.mks.lt d' hd' D e
            omega
        case measure => simp [intOf]; omega
      case stop =>
        rintro D c pre W _ _ h _
        exact h.elim
    · have hkn' : ¬ (k : Int) < (n : Int) := by omega
      have hc := hD.box.cell
      clear hD c0 c0'
      gi_wp2
      obtain rfl : k = n := by omega
      refine leaves_marks (B := w.heap.size) (I := fun W => W.ownsRow w.heap.size 3 1 v0 (outN gen f k).length (ivs (outN gen f k)) ∧ CL W base top A G k last R Q (fun i => (f i).dropWhile (up gen)) ∧ ChP (Own base top) w W)
        (fun W D hI hB hK => ⟨ownsRow_putObj hI.1 _ hK rfl, hI.2.1.put (by have := HTop.out; omega) _, hI.2.2.fresh (T := fun j => j = D) ⟨rfl, rfl, rfl, by simp [World.putObj], fun j _ hn => World.putObj_heap_other (fun e => hn e)⟩ (fun j e => .inr (by omega))⟩)
        (fun W hI => ⟨_, results_tmp rfl _ _ _, v0, rfl, hI⟩) ds wr HD.out.mks ⟨HD.out.row, HD.out.cl.congr (fun i hi => by unfold partF; rw [if_pos hi]), HD.out.ch⟩
theorem done_nil (gen : Int) (w : World) :
    Calls Tryz.prog 71 #[.pointer none, .int .i64 gen] w fun e w' => e = .returned (.slice none 0 0) ∧ w = w' := by
  go_enter Tryz.func71, Tryz.ntmps71
  go_wp2
  go_ret
  exact ⟨rfl, rfl⟩
end
end Go.Proofs.YtjoaigadlpndcaaGreatDoor
namespace Go.Proofs.YtjoaigadlpndcaaGreatDoor
open Go.RowKit Go.Shelf Go.Maps
open rC (Th RL flat tv objT)

attribute [local go_sem] Oper.semAt_some

/-- All callbacks of the first CPUs. -/
def catL (f : Nat → List Th) (k : Nat) : List Th := (List.range k).flatMap f
theorem catL_succ (f : Nat → List Th) (k : Nat) : catL f (k + 1) = catL f k ++ f k := by
  unfold catL; rw [List.range_succ, List.flatMap_append]; simp
theorem catL_len {f : Nat → List Th} {n : Nat} (h : ∀ i, i < n → (f i).length ≤ 64) : ∀ k, k ≤ n → (catL f k).length ≤ k * 64
  | 0, _ => by simp [catL]
  | k + 1, hk => by
    have h1 := catL_len h k (by omega)
    have h2 := h k (by omega)
    rw [catL_succ, List.length_append]
    omega
theorem catL_prefix (f : Nat → List Th) {k n : Nat} (h : k ≤ n) : catL f k <+: catL f n := by
  induction n with
  | zero =>
    have e : k = 0 := by omega
    rw [e]; exact List.prefix_refl _
  | succ n ih =>
    by_cases e : k = n + 1
    · subst e; exact List.prefix_refl _
    · exact (ih (by omega)).trans (by rw [catL_succ]; exact List.prefix_append _ _)
theorem cat_step {f : Nat → List Th} {k n j : Nat} (hk : k < n) (hj : j < (f k).length) : catL f k ++ (f k).take j ++ [(f k)[j]?.getD (0, 0)] <+: catL f n ∧ catL f k ++ (f k).take (j + 1) = catL f k ++ (f k).take j ++ [(f k)[j]?.getD (0, 0)] := by
  have h1 := take_snoc hj
  have h2 : catL f k ++ (f k).take (j + 1) = catL f k ++ (f k).take j ++ [(f k)[j]?.getD (0, 0)] := by rw [h1, List.append_assoc]
  refine ⟨?_, h2⟩
  rw [← h2]
  refine List.IsPrefix.trans ?_ (catL_prefix f (show k + 1 ≤ n by omega))
  rw [catL_succ]
  exact List.prefix_append_right_inj _ |>.2 (List.take_prefix _ _)

theorem all_in (n : Nat) (p : Option Addr) (w : World) :
    CallsIn Fence.wide n Tryz.prog 65 #[.pointer p] w fun e w' => e = .returned (.func (.func 76) #[] #[.pointer (some ⟨w.heap.size, 0, none⟩)]) ∧ w' = w.alloc (.cells #[.pointer p] 65) := by
  refine callsIn_of_wp Tryz.func65 rfl trivial ?_ rfl
  simp only [Tryz.ntmps65, List.size_toArray, List.length_cons, List.length_nil, Nat.reduceAdd, Nat.reduceSub, Array.replicate_succ, Array.replicate_zero, List.push_toArray, List.append_toArray, List.nil_append, List.cons_append]
  gi_wp2
  go_ret
  exact ⟨rfl, rfl⟩

/-- Lists that are nil, or lie below a block; what all of them hold. -/
def LP (n₀ : Nat) (w : World) (p : Option Addr) (xs : List Th) : Prop :=
  (p = none ∧ xs = []) ∨ ∃ base top A G n last R Q f, p = some ⟨A, 0, none⟩ ∧ top ≤ n₀ ∧ CL w base top A G n last R Q f ∧ xs = catL f n

section
variable {w : World} {base top A G n : Nat} {last : Int} {R Q : Nat → Nat} {f : Nat → List Th}
set_option maxRecDepth 100000 in
set_option maxHeartbeats 2000000 in
theorem all1_in (m : Nat) (l Bn b : Nat) (_ : Bn ≠ b) (hob : ¬ Own base top b) (hb : b < w.heap.size) (J Jx : List Th → World → Prop) (hJ : ∀ s X X', J s X → Ch [] X X' → J s X')
    (hY : ∀ pre x W, J pre W → pre ++ [x] <+: catL f n → YieldAt Fence.wide (m - 1) Tryz.prog l #[tv x] W fun e W' =>
      (e = .returned (.bool true) ∧ J (pre ++ [x]) W' ∧ (Keep (fun k => k ≠ b) W W' ∧ W.heap.size ≤ W'.heap.size)) ∨ (e = .returned (.bool false) ∧ Jx (pre ++ [x]) W'))
    (W : World) (hW : w.heap.size ≤ W.heap.size) (hc : W.cell? ⟨Bn, 0, none⟩ = some (.pointer (some ⟨A, 0, none⟩))) (hL : CL W base top A G n last R Q f) (h0 : J [] W) :
    CallsIn Fence.wide m Tryz.prog 76 #[.func (.yield l) #[] #[], .pointer (some ⟨Bn, 0, none⟩)] W fun e W' => (∃ v, e = .returned v) ∧
      ((∃ ys, ys = catL f n ∧ J ys W') ∨ (∃ pre, pre <+: catL f n ∧ Jx pre W')) := by
  have HY := Lib.hid hY
  have HL := Lib.hid hL
  have HJ := Lib.hid hJ
  have HJ0 := Lib.hid h0
  have HB := Lib.hid hc
  have c0 := hL.c0
  have hn64 := hL.n64
  clear hY hL hJ h0
  refine callsIn_of_wp Tryz.func76 rfl trivial ?_ rfl
  simp only [Tryz.ntmps76, List.size_toArray, List.length_cons, List.length_nil, Nat.reduceAdd, Nat.reduceSub, Array.replicate_succ, Array.replicate_zero, List.push_toArray, List.append_toArray, List.nil_append, List.cons_append]
  have hw : ∀ f, Fence.wide.fn f := fun _ => trivial
  have hd : Fence.wide.depth = none := rfl
  gi_wp2_with fail
  gi_loopw [14] (fun r wr => ∃ k : Nat, k ≤ n ∧ r = .int .i64 (k : Int) ∧ J (catL f k) wr ∧ CL wr base top A G n last R Q f ∧ w.heap.size ≤ wr.heap.size) (fun r _ => n - (intOf r).toNat)
  case atStart => exact ⟨0, Nat.zero_le _, rfl, by simpa [catL] using HJ0.out, HL.out, hW⟩
  case round =>
    obtain ⟨k, hk, rfl, hJk, hLk, hsz⟩ := hrel
    have HJk := Lib.hid hJk
    have HLk := Lib.hid hLk
    clear hc c0
    by_cases hkn : k < n
    · have cr := hLk.row k hkn
      have hlt : (k : Int) < (n : Int) := by omega
      have hl64 := (hLk.ring k hkn).le.1
      have HLs := Lib.hid (rC.list_l (hLk.ring k hkn))
      have HD := Lib.hid hkn
      clear hJk hLk
      gi_wp2_with fail
      refine (callsIn_wide.2 HLs.out).mono ?_
      rintro e w2 ⟨v, rfl, hrow, hB⟩
      obtain ⟨a, cp, rfl⟩ := own_form hrow
      have HRow := Lib.hid hrow
      have HB2 := Lib.hid hB
      have hs2 := hB.size
      have HJ2 := Lib.hid (HJ.out _ _ _ HJk.out (.of_below hB))
      have HL2 := Lib.hid (HLk.out.below hB)
      obtain ⟨q, hq⟩ : ∃ q, q = (f k).length := ⟨_, rfl⟩
      have HQ := Lib.hid hq
      rw [← hq] at hl64
      clear hrow hB
      go_frame
      rw [← hq]
      clear hq
      gi_wp2_with fail
      gi_loopw [21] (fun r wv => ∃ j : Nat, j ≤ q ∧ r = .int .i64 (j : Int) ∧ J (catL f k ++ (f k).take j) wv ∧ CL wv base top A G n last R Q f ∧ wr.heap.size ≤ wv.heap.size ∧ (∀ g, a = some ⟨g, 0, none⟩ → 0 < q → wv.heap[g]? = w2.heap[g]?)) (fun r _ => q - (intOf r).toNat)
      case atStart => exact ⟨0, Nat.zero_le _, rfl, by simpa using HJ2.out, HL2.out, hs2, fun _ _ _ => rfl⟩
      case round =>
        obtain ⟨j, hj, rfl, hJj, hLj, hsj, hgj⟩ := hrel
        have HJj := Lib.hid hJj
        have HLj := Lib.hid hLj
        have HGj := Lib.hid hgj
        clear hJj hLj
        by_cases hjq : j < q
        · have hrow := HRow.out
          rw [← HQ.out] at hrow
          obtain ⟨g, rfl, hg1, hg2, _, hcells⟩ := own_cells hrow 0 (by omega)
          have hj2 : j < (f k).length := by rw [← HQ.out]; exact hjq
          obtain ⟨x, hx⟩ : ∃ x, x = (f k)[j]?.getD (0, 0) := ⟨_, rfl⟩
          have hxs : (f k)[j]? = some x := by rw [hx, List.getElem?_eq_getElem hj2]; rfl
          have hstep := cat_step (f := f) HD.out hj2
          rw [← hx] at hstep
          have HS := Lib.hid hstep
          have hsame := hgj g rfl (by omega)
          have e0 : wr.cell? ⟨g, j * 2, none⟩ = some (.int .i64 x.1) := by
            rw [World.cell?_of_block (w := w2) (w' := wr) (a := ⟨g, j * 2, none⟩) hsame, hcells _ (by omega)]
            exact (rC.flat_at _ _ _ hxs).1
          have e1 : wr.cell? ⟨g, j * 2 + 1, none⟩ = some (.int .i64 x.2) := by
            rw [World.cell?_of_block (w := w2) (w' := wr) (a := ⟨g, j * 2 + 1, none⟩) hsame, hcells _ (by omega)]
            exact (rC.flat_at _ _ _ hxs).2
          have HE0 := Lib.hid e0
          have hjlt : (j : Int) < (q : Int) := by omega
          have hal : Ch [] wr (wr.alloc (.cells #[.int .i64 x.1, .int .i64 x.2] 102)) := (Ch.refl [] wr).alloc _
          have HAl := Lib.hid hal
          have hYx := HY.out _ x _ (HJ.out _ _ _ HJj.out hal) HS.out.1
          obtain ⟨fn, tmps, assign, body, hy, hR⟩ := hYx
          unfold tv at hy
          clear hrow hcells hx hxs hstep hsame hgj hal hj2
          gi_wp2_with fail
          refine hR.mono ?_
          rintro e W3 (⟨rfl, hJ3, hk3, hs3⟩ | ⟨rfl, hJx3⟩)
          · have HJ3 := Lib.hid hJ3
            have HK3 := Lib.hid hk3
            have hs4 : wr.heap.size + 1 ≤ W3.heap.size := by simpa using hs3
            clear hJ3 hk3 hy hR hs3
            go_frame
            gi_wp2
            go_roundw
            case rel =>
              have hg0 : g ≠ b := by omega
              refine ⟨j + 1, by omega, by go_num, by rw [HS.out.2]; exact HJ3.out, (HLj.out.quiet HAl.out).keep HK3.out (fun i hi e => hob (e ▸ hi)) (by have := HLj.out.hi; omega), by omega, fun g' e hq0 => ?_⟩
              obtain rfl : g = g' := by simpa using e
              have h5 := (HAl.out.cell (p := ⟨g, j * 2, none⟩) (cell_lt HE0.out) (by simp)).trans HE0.out
              rw [HK3.out.same hg0 h5, HAl.out.block g (cell_lt HE0.out) (by simp)]
              exact HGj.out g rfl hq0
            case measure => simp [intOf]; omega
          · have HJx := Lib.hid hJx3
            clear hJx3 hy hR
            go_frame
            gi_wp2
            refine bodyPost_ret (results_none rfl _ _ _) rfl ?_
            exact ⟨⟨_, rfl⟩, .inr ⟨_, HS.out.1, HJx.out⟩⟩
        · have hjq' : ¬ (j : Int) < (q : Int) := by omega
          clear hgj
          gi_wp2
          go_roundw
          case rel =>
            obtain rfl : j = q := by omega
            refine ⟨k + 1, by omega, by go_num, ?_, HLj.out, by omega⟩
            have h5 := HJj.out
            rwa [List.take_of_length_le (by rw [← HQ.out]; exact Nat.le_refl _), ← catL_succ] at h5
          case measure => simp [intOf]; omega
    · have hkn' : ¬ (k : Int) < (n : Int) := by omega
      clear hJk hLk
      gi_wp2
      go_end0
      obtain rfl : k = n := by omega
      first | exact ⟨⟨_, rfl⟩, .inl ⟨_, rfl, HJk.out⟩⟩ | exact ⟨⟨_, rfl⟩, .inl HJk.out⟩
end
end Go.Proofs.YtjoaigadlpndcaaGreatDoor
namespace Go.Proofs.YtjoaigadlpndcaaGreatDoor
open Go.RowKit Go.Shelf Go.Maps
open rC (Th RL flat tv objT)

attribute [local go_sem] Oper.semAt_some

/-- What a round of a loop over all callbacks may turn: the block b alone. -/
def Kpb (b : Nat) (X Y : World) : Prop := Keep (fun k => k ≠ b) X Y ∧ X.heap.size ≤ Y.heap.size
theorem Kpb.trans {b : Nat} {X Y Z : World} (h : Kpb b X Y) (k : Kpb b Y Z) : Kpb b X Z := ⟨h.1.trans k.1, Nat.le_trans h.2 k.2⟩
theorem Kpb.put {b : Nat} (W : World) (l : Nat) (o o' : Obj) (h : W.heap[l]? = some o) (hc : o.isCells = false) : Kpb b W (W.putObj l o') := ⟨Keep.put W l o o' h hc, by simp [World.putObj]⟩
theorem Kpb.alloc {b : Nat} (W : World) (o : Obj) : Kpb b W (W.alloc o) := ⟨Keep.alloc W o, by simp⟩
theorem Kpb.set {b : Nat} (W : World) (v : Value) : Kpb b W (W.setCell ⟨b, 0, none⟩ v) :=
  ⟨fun k o hk h _ => (Below.heap_setCell _ _ _ _ hk).trans h, by simp [World.setCell]⟩

theorem all_seq (m : Nat) {w : World} {p : Option Addr} {xs : List Th} {n₀ Bn b : Nat} (h : LP n₀ w p xs) (hn : n₀ ≤ b) (hb : b < w.heap.size) (hBb : Bn ≠ b) (hc : w.cell? ⟨Bn, 0, none⟩ = some (.pointer p)) :
    SeqP Fence.wide m Tryz.prog 76 #[.pointer (some ⟨Bn, 0, none⟩)] (fun x : Th => #[tv x]) (Ch []) (Kpb b) (fun ys _ => ys = xs) (fun pre => pre <+: xs) w := by
  intro l J Jx W hW hJ hY h0
  have hc' : W.cell? ⟨Bn, 0, none⟩ = some (.pointer p) := (hW.cell (p := ⟨Bn, 0, none⟩) (cell_lt hc)).trans hc
  rcases h with ⟨rfl, rfl⟩ | ⟨base, top, A, G, n, last, R, Q, f, rfl, ht, hL, rfl⟩
  · have HJ := Lib.hid h0
    clear hY hJ h0 hc hW
    refine callsIn_of_wp Tryz.func76 rfl trivial ?_ rfl
    simp only [Tryz.ntmps76, List.size_toArray, List.length_cons, List.length_nil, Nat.reduceAdd, Nat.reduceSub, Array.replicate_succ, Array.replicate_zero, List.push_toArray, List.append_toArray, List.nil_append, List.cons_append]
    gi_wp2
    refine bodyPost_ret (results_none rfl _ _ _) rfl ?_
    exact ⟨⟨_, rfl⟩, .inl ⟨_, rfl, HJ.out⟩⟩
  · exact all1_in m l Bn b hBb (fun e => by have := e.2; omega) hb J Jx hJ hY W hW.size hc' (hL.below hW) h0

/-- What holds while a loop goes over all callbacks: the box b, and that nothing else turned. -/
def OI (w : World) (b : Nat) (g : List Th → Int) (pre : List Th) (W : World) : Prop := Boxed W b 3 (.int .i64 (g pre)) ∧ Below w.heap.size w W
theorem OI.from' {w : World} {b B : Nat} {g : List Th → Int} (hB : w.heap.size ≤ B) : OwnFrom B (OI w b g) := by
  unfold OI
  exact OwnFrom.and (Go.Own.from (boxed_own b 3 (fun pre : List Th => .int .i64 (g pre))) _) (ownFrom_below (Nat.le_refl _) hB)
theorem OI.sta {w : World} {b : Nat} {g : List Th → Int} {pre : List Th} {X Y : World} (h : OI w b g pre X) (hc : Ch [] X Y) : OI w b g pre Y :=
  ⟨h.1.kept hc.grown0 (by simp), h.2.trans (hc.below _ (fun k hk => by simp at hk) h.2.size)⟩
theorem OI.set {w : World} {b : Nat} {g : List Th → Int} {pre : List Th} {X : World} (h : OI w b g pre X) (hb : w.heap.size ≤ b) {q : List Th} {z : Int} (hz : g q = z) : OI w b g q (X.setCell ⟨b, 0, none⟩ (.int .i64 z)) := by
  subst hz
  exact ⟨h.1.set _, h.2.setCell (p := ⟨b, 0, none⟩) hb _⟩
theorem OI.ch {w W : World} {b : Nat} {g : List Th → Int} {pre : List Th} (h : OI w b g pre W) : Ch [] w W := .of_below h.2

/-- How many of none have a generation; the greatest one; how many. -/
def zcI (xs : List Th) : Int := (zc xs : Int)
def mxI (xs : List Th) : Int := xs.foldl (fun m x => if m < x.2 then x.2 else m) 0
def lnI (xs : List Th) : Int := (xs.length : Int)
theorem mxI_snoc (xs : List Th) (x : Th) : mxI (xs ++ [x]) = if mxI xs < x.2 then x.2 else mxI xs := by unfold mxI; rw [List.foldl_append]; rfl
set_option maxRecDepth 100000 in
set_option maxHeartbeats 2000000 in
theorem open_in (m : Nat) {w : World} {p : Option Addr} {xs : List Th} (h : LP w.heap.size w p xs) (hx : xs.length ≤ 4096) :
    CallsIn Fence.wide (m + 6) Tryz.prog 52 #[.pointer p] w fun e w' => e = .returned (.int .i64 (zcI xs)) ∧ Below w.heap.size w w' := by
  have HP := Lib.hid h
  have HX := Lib.hid hx
  clear h hx
  have hw : ∀ f, Fence.wide.fn f := fun _ => trivial
  have hd : Fence.wide.depth = none := rfl
  have h1 : 1 ≤ m + 6 := by omega
  refine callsIn_of_wp_marks Tryz.func52 rfl trivial ?_ rfl
  simp only [Tryz.ntmps52, List.size_toArray, List.length_cons, List.length_nil, Nat.reduceAdd, Nat.reduceSub, Array.replicate_succ, Array.replicate_zero, List.push_toArray, List.append_toArray, List.nil_append, List.cons_append]
  gi_wp2_with (gi_at_call 65; refine (all_in _ _ _).mono ?_; rintro e w' ⟨rfl, rfl⟩)
  obtain ⟨W1, hW1⟩ : ∃ W1, W1 = w.alloc (.cells #[.int .i64 0] 3) := ⟨_, rfl⟩
  obtain ⟨W0, hW0⟩ : ∃ W0, W0 = W1.alloc (.cells #[.pointer p] 65) := ⟨_, rfl⟩
  have hs1 : W1.heap.size = w.heap.size + 1 := by rw [hW1]; simp
  have hs0 : W0.heap.size = w.heap.size + 1 + 1 := by rw [hW0]; simp [hs1]
  have hbn : Boxed W0 w.heap.size 3 (.int .i64 0) := by rw [hW0, hW1]; exact (Boxed.new w _ _).alloc _
  have hbp : Boxed W0 (w.heap.size + 1) 65 (.pointer p) := by rw [hW0, ← hs1]; exact Boxed.new W1 _ _
  have hB0 : Below w.heap.size w W0 := by rw [hW0, hW1]; exact ((Below.refl _ w).alloc (Nat.le_refl _) _).alloc (by simp) _
  rw [← hW1, ← hW0]
  clear hW0 hW1 hs1
  have hLP : LP w.heap.size W0 p xs := by
    rcases HP.out with h | ⟨base, top, A, G, n, last, R, Q, f, e, ht, hL, hx⟩
    · exact .inl h
    · exact .inr ⟨base, top, A, G, n, last, R, Q, f, e, ht, hL.below hB0, hx⟩
  have HOI := Lib.hid (show OI w w.heap.size zcI [] W0 from ⟨hbn, hB0⟩)
  refine wpIn_range_x rfl h1 (gf := 76) (lb := #[.pointer (some ⟨w.heap.size + 1, 0, none⟩)]) rfl trivial (enters_of Tryz.func76 (by kernel_rfl) rfl)
    (ownFrom_pure _ _) (all_seq (m + 6 - 1) (b := w.heap.size) hLP (Nat.le_refl _) (by omega) (by omega) hbp.cell)
    (fun A B hAB j o hj _ _ => (hAB.block j (Array.getElem?_eq_some_iff.1 hj).1 (by simp)).trans hj)
    (fun h k => h.trans k) (fun W l o o' _ ho hc _ _ => Kpb.put W l o o' ho hc) (fun _ => rfl)
    (OI w w.heap.size zcI) (fun _ _ _ => False) (OI.from' (by omega)) (fun s A B hs hc => hs.sta hc) (fun _ _ _ _ _ hs _ _ => hs)
    HOI.out objT (fun W x => Kpb.alloc W _) (fun _ => rfl)
    (fun x b => { tmps := #[.pointer p, undef, .int .i64 0, .pointer (some ⟨w.heap.size, 0, none⟩), .pointer (some ⟨b, 0, none⟩), .pointer p, .func (.func 76) #[] #[.pointer (some ⟨w.heap.size + 1, 0, none⟩)], tv x, undef, undef, undef, undef, undef, undef], defers := [] }) ?assign ?body ?done ?stop
  case assign =>
    intro l x W K hK
    unfold objT at hK
    unfold tv
    gi_wp2
    first
      | exact hK
      | (unfold tv at hK; simpa using hK)
  case body =>
    rintro l pre x b W hI hpre _ hbx
    obtain ⟨x0, x1⟩ := rC.cells_two hbx
    have hlen : pre.length + 1 ≤ 4096 := by
      have h2 := hpre.length_le
      have h3 := HX.out
      simp at h2
      omega
    have HI := Lib.hid hI
    have hv := hI.1
    have hc := hv.cell
    have hf := hv.frozen
    have hz := zc_le pre
    have hq := zc_snoc pre x
    unfold zcI at hc
    obtain ⟨q, hqe⟩ : ∃ q, q = zc pre := ⟨_, rfl⟩
    rw [← hqe] at hz hq hc
    have HQ := Lib.hid hq
    have hw1 : IntKind.i64.wrap ((q : Int) + 1) = (q : Int) + 1 := IntWalk.i64_in _ (by omega)
    have HQe := Lib.hid hqe
    clear hI hv hq hqe hLP HOI hbn hbp hbx
    unfold tv
    by_cases hx0 : x.2 = 0
    · have HZ := Lib.hid (show zc (pre ++ [x]) = q + 1 by rw [HQ.out, if_pos hx0])
      rw [hx0] at x1
      gi_wp2
      refine ⟨(KeepsOthers.setCell _ _ _).from _, Kpb.set _ _, HI.out.set (Nat.le_refl _) ?_⟩
      unfold zcI
      rw [HZ.out]
      rfl
    · have HZ := Lib.hid (show zc (pre ++ [x]) = q by rw [HQ.out, if_neg hx0, Nat.add_zero])
      have hxb : (x.2 == 0) = false := beq_false_of_ne hx0
      gi_wp2
      refine ⟨KeepsFrom.refl _ _, ⟨Keep.refl _ _, Nat.le_refl _⟩, ?_⟩
      unfold OI zcI
      rw [HZ.out, HQe.out]
      exact HI.out
  case done =>
    rintro D ys W hD rfl hI hK
    have HI := Lib.hid hI
    have hc := hI.1.cell
    clear hI
    gi_wp2
    refine ⟨by simp, .inl ⟨_, _, rfl, run_takeDeferred hK, ?_⟩⟩
    exact ⟨_, results_tmp rfl _ _ _, rfl, HI.out.2.trans (belowK_b (w := w) (Nat.le_refl _) W D _ _ (by omega) hK rfl rfl)⟩
  case stop =>
    rintro D c pre W _ _ h _
    exact h.elim
set_option maxRecDepth 100000 in
set_option maxHeartbeats 2000000 in
theorem newest_in (m : Nat) {w : World} {p : Option Addr} {xs : List Th} (h : LP w.heap.size w p xs) (hx : xs.length ≤ 4096) :
    CallsIn Fence.wide (m + 6) Tryz.prog 53 #[.pointer p] w fun e w' => e = .returned (.int .i64 (mxI xs)) ∧ Below w.heap.size w w' := by
  have HP := Lib.hid h
  have HX := Lib.hid hx
  clear h hx
  have hw : ∀ f, Fence.wide.fn f := fun _ => trivial
  have hd : Fence.wide.depth = none := rfl
  have h1 : 1 ≤ m + 6 := by omega
  refine callsIn_of_wp_marks Tryz.func53 rfl trivial ?_ rfl
  simp only [Tryz.ntmps53, List.size_toArray, List.length_cons, List.length_nil, Nat.reduceAdd, Nat.reduceSub, Array.replicate_succ, Array.replicate_zero, List.push_toArray, List.append_toArray, List.nil_append, List.cons_append]
  gi_wp2_with (gi_at_call 65; refine (all_in _ _ _).mono ?_; rintro e w' ⟨rfl, rfl⟩)
  obtain ⟨W1, hW1⟩ : ∃ W1, W1 = w.alloc (.cells #[.int .i64 0] 3) := ⟨_, rfl⟩
  obtain ⟨W0, hW0⟩ : ∃ W0, W0 = W1.alloc (.cells #[.pointer p] 65) := ⟨_, rfl⟩
  have hs1 : W1.heap.size = w.heap.size + 1 := by rw [hW1]; simp
  have hs0 : W0.heap.size = w.heap.size + 1 + 1 := by rw [hW0]; simp [hs1]
  have hbn : Boxed W0 w.heap.size 3 (.int .i64 0) := by rw [hW0, hW1]; exact (Boxed.new w _ _).alloc _
  have hbp : Boxed W0 (w.heap.size + 1) 65 (.pointer p) := by rw [hW0, ← hs1]; exact Boxed.new W1 _ _
  have hB0 : Below w.heap.size w W0 := by rw [hW0, hW1]; exact ((Below.refl _ w).alloc (Nat.le_refl _) _).alloc (by simp) _
  rw [← hW1, ← hW0]
  clear hW0 hW1 hs1
  have hLP : LP w.heap.size W0 p xs := by
    rcases HP.out with h | ⟨base, top, A, G, n, last, R, Q, f, e, ht, hL, hx⟩
    · exact .inl h
    · exact .inr ⟨base, top, A, G, n, last, R, Q, f, e, ht, hL.below hB0, hx⟩
  have HOI := Lib.hid (show OI w w.heap.size mxI [] W0 from ⟨hbn, hB0⟩)
  refine wpIn_range_x rfl h1 (gf := 76) (lb := #[.pointer (some ⟨w.heap.size + 1, 0, none⟩)]) rfl trivial (enters_of Tryz.func76 (by kernel_rfl) rfl)
    (ownFrom_pure _ _) (all_seq (m + 6 - 1) (b := w.heap.size) hLP (Nat.le_refl _) (by omega) (by omega) hbp.cell)
    (fun A B hAB j o hj _ _ => (hAB.block j (Array.getElem?_eq_some_iff.1 hj).1 (by simp)).trans hj)
    (fun h k => h.trans k) (fun W l o o' _ ho hc _ _ => Kpb.put W l o o' ho hc) (fun _ => rfl)
    (OI w w.heap.size mxI) (fun _ _ _ => False) (OI.from' (by omega)) (fun s A B hs hc => hs.sta hc) (fun _ _ _ _ _ hs _ _ => hs)
    HOI.out objT (fun W x => Kpb.alloc W _) (fun _ => rfl)
    (fun x b => { tmps := #[.pointer p, undef, .int .i64 0, .pointer (some ⟨w.heap.size, 0, none⟩), .pointer (some ⟨b, 0, none⟩), .pointer p, .func (.func 76) #[] #[.pointer (some ⟨w.heap.size + 1, 0, none⟩)], tv x, undef, undef, undef, undef, undef], defers := [] }) ?assign ?body ?done ?stop
  case assign =>
    intro l x W K hK
    unfold objT at hK
    unfold tv
    gi_wp2
    first
      | exact hK
      | (unfold tv at hK; simpa using hK)
  case body =>
    rintro l pre x b W hI hpre _ hbx
    obtain ⟨x0, x1⟩ := rC.cells_two hbx
    have hlen : pre.length + 1 ≤ 4096 := by
      have h2 := hpre.length_le
      have h3 := HX.out
      simp at h2
      omega
    have HI := Lib.hid hI
    have hv := hI.1
    have hc := hv.cell
    have hf := hv.frozen
    have hq := mxI_snoc pre x
    obtain ⟨q, hqe⟩ : ∃ q, q = mxI pre := ⟨_, rfl⟩
    rw [← hqe] at hq hc
    have HQ := Lib.hid hq
    clear hI hv hq hqe hLP HOI hbn hbp hbx
    unfold tv
    by_cases hx0 : q < x.2
    · have HZ := Lib.hid (show mxI (pre ++ [x]) = x.2 by rw [HQ.out, if_pos hx0])
      gi_wp2
      refine ⟨(KeepsOthers.setCell _ _ _).from _, Kpb.set _ _, HI.out.set (Nat.le_refl _) ?_⟩
      rw [HZ.out]
    · have HZ := Lib.hid (show mxI (pre ++ [x]) = q by rw [HQ.out, if_neg hx0])
      gi_wp2
      refine ⟨(KeepsOthers.setCell _ _ _).from _, Kpb.set _ _, HI.out.set (Nat.le_refl _) ?_⟩
      rw [HZ.out]
  case done =>
    rintro D ys W hD rfl hI hK
    have HI := Lib.hid hI
    have hc := hI.1.cell
    clear hI
    gi_wp2
    refine ⟨by simp, .inl ⟨_, _, rfl, run_takeDeferred hK, ?_⟩⟩
    exact ⟨_, results_tmp rfl _ _ _, rfl, HI.out.2.trans (belowK_b (w := w) (Nat.le_refl _) W D _ _ (by omega) hK rfl rfl)⟩
  case stop =>
    rintro D c pre W _ _ h _
    exact h.elim
set_option maxRecDepth 100000 in
set_option maxHeartbeats 2000000 in
theorem len_in (m : Nat) {w : World} {p : Option Addr} {xs : List Th} (h : LP w.heap.size w p xs) (hx : xs.length ≤ 4096) :
    CallsIn Fence.wide (m + 6) Tryz.prog 51 #[.pointer p] w fun e w' => e = .returned (.int .i64 (lnI xs)) ∧ Below w.heap.size w w' := by
  have HP := Lib.hid h
  have HX := Lib.hid hx
  clear h hx
  have hw : ∀ f, Fence.wide.fn f := fun _ => trivial
  have hd : Fence.wide.depth = none := rfl
  have h1 : 1 ≤ m + 6 := by omega
  refine callsIn_of_wp_marks Tryz.func51 rfl trivial ?_ rfl
  simp only [Tryz.ntmps51, List.size_toArray, List.length_cons, List.length_nil, Nat.reduceAdd, Nat.reduceSub, Array.replicate_succ, Array.replicate_zero, List.push_toArray, List.append_toArray, List.nil_append, List.cons_append]
  gi_wp2_with (gi_at_call 65; refine (all_in _ _ _).mono ?_; rintro e w' ⟨rfl, rfl⟩)
  obtain ⟨W1, hW1⟩ : ∃ W1, W1 = w.alloc (.cells #[.int .i64 0] 3) := ⟨_, rfl⟩
  obtain ⟨W0, hW0⟩ : ∃ W0, W0 = W1.alloc (.cells #[.pointer p] 65) := ⟨_, rfl⟩
  have hs1 : W1.heap.size = w.heap.size + 1 := by rw [hW1]; simp
  have hs0 : W0.heap.size = w.heap.size + 1 + 1 := by rw [hW0]; simp [hs1]
  have hbn : Boxed W0 w.heap.size 3 (.int .i64 0) := by rw [hW0, hW1]; exact (Boxed.new w _ _).alloc _
  have hbp : Boxed W0 (w.heap.size + 1) 65 (.pointer p) := by rw [hW0, ← hs1]; exact Boxed.new W1 _ _
  have hB0 : Below w.heap.size w W0 := by rw [hW0, hW1]; exact ((Below.refl _ w).alloc (Nat.le_refl _) _).alloc (by simp) _
  rw [← hW1, ← hW0]
  clear hW0 hW1 hs1
  have hLP : LP w.heap.size W0 p xs := by
    rcases HP.out with h | ⟨base, top, A, G, n, last, R, Q, f, e, ht, hL, hx⟩
    · exact .inl h
    · exact .inr ⟨base, top, A, G, n, last, R, Q, f, e, ht, hL.below hB0, hx⟩
  have HOI := Lib.hid (show OI w w.heap.size lnI [] W0 from ⟨hbn, hB0⟩)
  refine wpIn_range_n rfl h1 (gf := 76) (lb := #[.pointer (some ⟨w.heap.size + 1, 0, none⟩)]) rfl trivial (enters_of Tryz.func76 (by kernel_rfl) rfl)
    (ownFrom_pure _ _) (all_seq (m + 6 - 1) (b := w.heap.size) hLP (Nat.le_refl _) (by omega) (by omega) hbp.cell)
    (fun A B hAB j o hj _ _ => (hAB.block j (Array.getElem?_eq_some_iff.1 hj).1 (by simp)).trans hj)
    (fun h k => h.trans k) (fun W l o o' _ ho hc _ _ => Kpb.put W l o o' ho hc) (fun _ => rfl)
    (OI w w.heap.size lnI) (fun _ _ _ => False) (OI.from' (by omega)) (fun s A B hs hc => hs.sta hc) (fun _ _ _ _ _ hs _ _ => hs)
    HOI.out 
    (fun x => { tmps := #[.pointer p, undef, .int .i64 0, .pointer (some ⟨w.heap.size, 0, none⟩), .pointer p, .func (.func 76) #[] #[.pointer (some ⟨w.heap.size + 1, 0, none⟩)], tv x, undef, undef, undef], defers := [] }) ?assign ?body ?done ?stop
  case assign =>
    intro l x W K hK
    unfold tv
    gi_wp2
    first
      | exact hK
      | (unfold tv at hK; simpa using hK)
  case body =>
    rintro l pre x W hI hpre
    have hlen : pre.length + 1 ≤ 4096 := by
      have h2 := hpre.length_le
      have h3 := HX.out
      simp at h2
      omega
    have HI := Lib.hid hI
    have hv := hI.1
    have hc := hv.cell
    have hf := hv.frozen
    unfold lnI at hc
    obtain ⟨q, hqe⟩ : ∃ q, q = pre.length := ⟨_, rfl⟩
    have HQ := Lib.hid (show (pre ++ [x]).length = q + 1 by rw [hqe]; simp)
    rw [← hqe] at hc hlen
    have hw1 : IntKind.i64.wrap ((q : Int) + 1) = (q : Int) + 1 := IntWalk.i64_in _ (by omega)
    clear hI hv hqe hLP HOI hbn hbp
    unfold tv
    · gi_wp2
      refine ⟨(KeepsOthers.setCell _ _ _).from _, Kpb.set _ _, HI.out.set (Nat.le_refl _) ?_⟩
      unfold lnI
      rw [HQ.out]
      rfl
  case done =>
    rintro D ys W hD rfl hI hK
    have HI := Lib.hid hI
    have hc := hI.1.cell
    clear hI
    gi_wp2
    refine ⟨by simp, .inl ⟨_, _, rfl, run_takeDeferred hK, ?_⟩⟩
    exact ⟨_, results_tmp rfl _ _ _, rfl, HI.out.2.trans (belowK_b (w := w) (Nat.le_refl _) W D _ _ (by omega) hK rfl rfl)⟩
  case stop =>
    rintro D c pre W _ _ h _
    exact h.elim
end Go.Proofs.YtjoaigadlpndcaaGreatDoor

/-
  Reached: a loop in whose body stands a range over a function: each round leaves a mark.
-/
import Derived.Sort.LoopGhostIn
import Derived.Test.YtadogffllkompaaDoorCkE
namespace Go.Proofs.YtadogffllkompaaDoor
open Go.RowKit Go.Shelf

attribute [local go_sem] Oper.semAt_some

/-- The marks that rounds have left: each its own block, between n₀ and B, with nothing handed over. -/
def Marks (n₀ B : Nat) (w : World) : List Deferred → Prop
  | [] => True
  | d :: ds => (∃ D, d = { target := .collected D, args := #[] } ∧ n₀ ≤ D ∧ D < B ∧ w.heap[D]? = some (.deferred (some [])) ∧ ∀ d' ∈ ds, d'.target ≠ .collected D) ∧ Marks n₀ B w ds
theorem Marks.keep {n₀ B B' : Nat} {w w' : World} (hB : B ≤ B') (h : ∀ D, n₀ ≤ D → D < B → w.heap[D]? = some (.deferred (some [])) → w'.heap[D]? = some (.deferred (some []))) : ∀ {ds : List Deferred}, Marks n₀ B w ds → Marks n₀ B' w' ds
  | [], _ => trivial
  | _ :: _, ⟨⟨D, h1, h2, h3, h4, h5⟩, h6⟩ => ⟨⟨D, h1, h2, by omega, h D h2 h3 h4, h5⟩, Marks.keep hB h h6⟩
theorem Marks.lt {n₀ B : Nat} {w : World} : ∀ {ds : List Deferred}, Marks n₀ B w ds → ∀ d ∈ ds, ∃ D, d.target = .collected D ∧ D < B
  | [], _, _, hd => by cases hd
  | _ :: _, ⟨⟨D, h1, _, h3, _⟩, h6⟩, d, hd => by
    rcases List.mem_cons.1 hd with rfl | hd
    · exact ⟨D, by rw [h1], h3⟩
    · exact h6.lt d hd
theorem Marks.ch {n₀ B : Nat} {S : List Nat} {w w' : World} {ds : List Deferred} (h : Marks n₀ B w ds) (hc : Ch S w w') (hS : ∀ k ∈ S, ∃ o, w.heap[k]? = some o ∧ o.isCells = true) : Marks n₀ B w' ds :=
  h.keep (Nat.le_refl _) fun D _ _ hD => (hc.block D (Array.getElem?_eq_some_iff.1 hD).1 (fun hm => by
    obtain ⟨o, h1, h2⟩ := hS D hm
    rw [hD] at h1
    cases h1
    cases h2)).trans hD
theorem Marks.own {n₀ B : Nat} {ds : List Deferred} {β : Type} : OwnFrom B (fun (_ : β) W => Marks n₀ B W ds) := fun _ W W' row h hg hr =>
  h.keep (Nat.le_refl _) fun D _ hlt hD => (hg.block D (Array.getElem?_eq_some_iff.1 hD).1 (fun e => by have := (hr D e.symm).1; omega)).trans hD
/-- The marks are taken over one behind the other. -/
theorem leaves_marks {F : Fence} {n : Nat} {P : Program} {fn : Func} {tmps : Array Value} {R : Ending → World → Prop} {n₀ B : Nat} {w0 : World} {v : Value} (hres : ∀ W, (results fn tmps).run P W = .ok v W) (hR : ∀ W, Below n₀ w0 W → R (.returned v) W) :
    ∀ (ds : List Deferred) (w : World), Marks n₀ B w ds → Below n₀ w0 w → LeavesInM F n P fn tmps R ds .returning w
  | [], w, _, hb => ⟨v, hres w, hR w hb⟩
  | d :: ds, w, ⟨⟨D, h1, h2, h3, h4, h5⟩, h6⟩, hb => by
    have hlt := (Array.getElem?_eq_some_iff.1 h4).1
    refine ⟨by simp, .inl ⟨D, _, by rw [h1], run_takeDeferred h4, ?_⟩⟩
    refine leaves_marks (B := B) hres hR ds _ ?_ (hb.trans ((Below.refl n₀ w).grown (grownBy_putObj' w D _) (by omega) (fun k e => by cases e; omega)))
    have key : ∀ (es : List Deferred), (∀ d' ∈ es, d'.target ≠ .collected D) → Marks n₀ B w es → Marks n₀ B (w.putObj D (.deferred none)) es := by
      intro es
      induction es with
      | nil => exact fun _ _ => trivial
      | cons e es ih =>
        rintro hne ⟨⟨D', g1, g2, g3, g4, g5⟩, g6⟩
        refine ⟨⟨D', g1, g2, g3, ?_, g5⟩, ih (fun d' hd' => hne d' (List.mem_cons_of_mem _ hd')) g6⟩
        have : D' ≠ D := fun e2 => hne e (by simp) (by rw [g1, e2])
        exact (World.putObj_heap_other this).trans g4
    exact key ds h5 h6
/-- What holds ahead of each round. -/
structure RS (w : World) (L : List I5) (Br Bo R O : Nat) (ds : List Deferred) (W : World) : Prop where
  wl : WL L R O
  r : BM W Br R
  o : BM W Bo O
  b : Below w.heap.size w W
  m : Marks w.heap.size W.heap.size W ds
  r0 : w.heap.size ≤ Br
  o0 : w.heap.size ≤ Bo

set_option maxRecDepth 100000 in
set_option maxHeartbeats 8000000 in
theorem reached_loop (n : Nat) {L : List I5} {a : Option Addr} {len cap : Nat} (hL : L.length = len) (hlen : len ≤ 1000) (hfit : ∀ x ∈ L, Fit x) (w : World) (hI : InsAt w a L) (hT : Mk.Tab w) {Br Bo R0 O0 : Nat} (hne : Br ≠ Bo) {w1 : World} (hS : RS w L Br Bo R0 O0 [] w1) {u8 u9 u10 u11 u12 : Value} :
    (codeOf [1, 1, 1] (Tryd.f15.body.getD .skip)).wpIn Fence.wide (n + 8) Tryd.prog (bodyPostM Fence.wide (n + 8) Tryd.prog Tryd.f15 fun e W' => ∃ M, RM L M ∧ e = .returned (.int .u64 ((M : Nat) : Int)) ∧ Below w.heap.size w W')
      { tmps := #[.slice a len cap, undef, .int .u64 0, .pointer (some ⟨Br, 0, none⟩), .pointer (some ⟨Bo, 0, none⟩), undef, undef, undef, u8, u9, u10, u11, u12, undef, undef, undef, undef, undef, undef, undef, undef, undef, undef, undef, undef, undef, undef, undef, undef, undef, undef, undef, undef, undef, undef, undef, undef, undef, undef, undef, undef, undef, undef, undef, undef], defers := [] } w1 := by
  have hg : 1 < w.heap.size := by
    have h := hT 0 (by decide)
    apply Nat.lt_of_not_le
    intro hle
    simp [World.cell?, Array.getElem?_eq_none hle] at h
  have HT := Lib.hid hT
  have HI := Lib.hid hI
  have HS := Lib.hid hS
  have HNx := Lib.hid (fun (O : Nat) (hO : O < 18446744073709551616) (W : World) (hW : Below w.heap.size w W) => Mk.next_any O hO 0 W (hT.below hW hg))
  have c1 := hS.o.cell
  clear hT hI hS
  have hw : ∀ f, Fence.wide.fn f := fun _ => trivial
  have hd : Fence.wide.depth = none := rfl
  have h1 : 1 ≤ n + 8 := by omega
  simp only [codeOf, Tryd.f15, Option.getD_some]
  gi_wp2_with (first
    | (gi_at_call 27; with_reducible refine (callsIn_wide.2 (HNx.out _ HS.out.wl.olt _ HS.out.b)).mono ?_; rintro e w2 ⟨rfl, hb2⟩)
    | fail)
  have HS2 := Lib.hid (show RS w L Br Bo R0 O0 [] w2 from ⟨HS.out.wl, (hb2.block Br HS.out.r.lt).trans HS.out.r, (hb2.block Bo HS.out.o.lt).trans HS.out.o, HS.out.b.trans (hb2.mono HS.out.b.size), trivial, HS.out.r0, HS.out.o0⟩)
  clear hb2 HS c1
  refine wpIn_loop_ghost_k (fun m a' W => ∃ (u7 u13 u14 u15 u16 u17 u18 u19 u20 u21 u22 u23 u24 u25 u26 u27 u28 u29 u30 u31 u32 u33 u34 u35 u36 u37 u38 u39 u40 u41 u42 u43 : Value) (R O : Nat) (ds : List Deferred), noN R = m ∧ RS w L Br Bo R O ds W ∧ a' = { tmps := #[.slice a len cap, undef, .int .u64 0, .pointer (some ⟨Br, 0, none⟩), .pointer (some ⟨Bo, 0, none⟩), .int .i64 ((Mk.nextV O 0 : Nat) : Int), .bool (Mk.nextB O 0), u7, u8, u9, u10, u11, u12, u13, u14, u15, u16, u17, u18, u19, u20, u21, u22, u23, u24, u25, u26, u27, u28, u29, u30, u31, u32, u33, u34, u35, u36, u37, u38, u39, u40, u41, u42, u43, undef], defers := ds }) (noN R0) ⟨_, _, _, _, _, _, _, _, _, _, _, _, _, _, _, _, _, _, _, _, _, _, _, _, _, _, _, _, _, _, _, _, R0, O0, [], rfl, HS2.out, rfl⟩ ?_
  intro m a' W hI J K hJ hK
  obtain ⟨u7, u13, u14, u15, u16, u17, u18, u19, u20, u21, u22, u23, u24, u25, u26, u27, u28, u29, u30, u31, u32, u33, u34, u35, u36, u37, u38, u39, u40, u41, u42, u43, R, O, ds, hm, hS, rfl⟩ := hI
  have HJ := Lib.hid hJ
  have HK := Lib.hid hK
  have HS3 := Lib.hid hS
  have HM := Lib.hid hm
  clear hJ hK hS hm HS2
  cases hb : Mk.nextB O 0 with
  | false =>
    have HR := Lib.hid (HS3.out.wl.done (next_none HS3.out.wl.olt hb))
    have c1 := HS3.out.r.cell
    clear hb
    gi_wp2
    exact leaves_marks (v := .int .u64 (R : Int)) (fun W => by simp [results, go_sem]) (fun W' hW' => ⟨R, HR.out, rfl, hW'⟩) ds W HS3.out.m HS3.out.b
  | true =>
    obtain ⟨x, hx⟩ : ∃ x, x = Mk.nextV O 0 := ⟨_, rfl⟩
    have hx1 := (next_some hb).1
    rw [← hx] at hx1 ⊢
    obtain ⟨hwl, hmm, hxl⟩ := HS3.out.wl.next hx1
    clear hb hx
    refine wpIn_seq_k (fun K1 hK1 => ?_)
    have HK1 := Lib.hid hK1
    clear hK1
    gi_wp2
    refine HK1.out _ _ ?_
    clear HK1
    refine wpIn_seq_k (fun K1 hK1 => ?_)
    have HK1 := Lib.hid hK1
    clear hK1
    refine wpIn_block ?_
    refine wpIn_seq_k (fun K2 hK2 => ?_)
    have HK2 := Lib.hid hK2
    clear hK2
    rw [wpIn_wide]
    refine move_piece hne HS3.out.wl.rlt HS3.out.wl.olt HS3.out.r HS3.out.o ?_
    intro u24 u25 u26 u27 u28 u29 u30 u31 W3 hr3 ho3 hc3
    simp only [Exit.then]
    refine HK2.out _ _ ?_
    clear HK2
    have hB3 : Below w.heap.size w W3 := HS3.out.b.trans (hc3.below _ (by have := HS3.out.r0; have := HS3.out.o0; intro k hk; simp at hk; omega) HS3.out.b.size)
    have hM3 : Marks w.heap.size W3.heap.size W3 ds := (HS3.out.m.ch hc3 (by
      intro k hk
      simp only [List.mem_cons, List.not_mem_nil, or_false] at hk
      rcases hk with rfl | rfl
      · exact ⟨_, HS3.out.r, rfl⟩
      · exact ⟨_, HS3.out.o, rfl⟩)).keep hc3.size (fun _ _ _ h => h)
    obtain ⟨R', hR'⟩ : ∃ M, M = Mk.withN R [(x : Int)] := ⟨_, rfl⟩
    obtain ⟨O1, hO1⟩ : ∃ M, M = Mk.withoutN O [(x : Int)] := ⟨_, rfl⟩
    have hO1lt : O1 < 18446744073709551616 := by rw [hO1]; exact Mk.withoutN_lt _ _ HS3.out.wl.olt
    rw [← hR', ← hO1] at hwl
    rw [← hR'] at hmm hr3
    rw [← hO1] at ho3
    have hbl : bhl L (x : Int) = nxL L.length (ia L x) x := by
      unfold bhl
      rw [if_pos (by unfold inn; rw [decide_eq_true_eq]; omega), Int.toNat_natCast]
      exact prL_eq (by omega) (by omega) (by rw [← ia_at hxl]; exact hfit _ (List.getElem_mem _))
    rw [← hbl] at hwl
    have HWl := Lib.hid hwl
    have HMm := Lib.hid hmm
    have r0 := HS3.out.r0
    have o0 := HS3.out.o0
    clear hwl hmm hR' hO1 hbl hc3
    gi_wp2_with (gi_at_call 24; refine (behind_in _ _ _ _ _ _).mono ?_; rintro e w' ⟨rfl, rfl⟩)
    obtain ⟨W4, hW4⟩ : ∃ W4, (W3.alloc (.cells #[.slice a len cap] 27)).alloc (.cells #[.int .i64 (x : Int)] 3) = W4 := ⟨_, rfl⟩
    have b1 : Boxed W4 W3.heap.size 27 (.slice a len cap) := by rw [← hW4]; exact (Boxed.new W3 27 _).alloc _
    have b2 : Boxed W4 (W3.heap.size + 1) 3 (.int .i64 (x : Int)) := by
      rw [← hW4]; have := Boxed.new (W3.alloc (.cells #[.slice a len cap] 27)) 3 (.int .i64 (x : Int))
      rwa [World.size_alloc] at this
    have hr4 : BM W4 Br R' := by rw [← hW4]; exact (hr3.alloc _).alloc _
    have ho4 : BM W4 Bo O1 := by rw [← hW4]; exact (ho3.alloc _).alloc _
    have hB4 : Below w.heap.size w W4 := by rw [← hW4]; exact (hB3.alloc hB3.size _).alloc (by have := hB3.size; simp; omega) _
    have hsz : W4.heap.size = W3.heap.size + 1 + 1 := by rw [← hW4]; simp
    have hM4 : Marks w.heap.size W4.heap.size W4 ds := (hM3.ch (by rw [← hW4]; exact ((Ch.refl [] W3).alloc _).alloc _) (by simp)).keep (by omega) (fun _ _ _ h => h)
    have hI4 := HI.out.ch (Ch.of_below (S := []) hB4) (by simp)
    have hr3l := hr3.lt
    have ho3l := ho3.lt
    have hB3s := hB3.size
    have hbeh := behind_stops (n + 8 - 1) hL hlen hfit W3.heap.size (W3.heap.size + 1) w.heap.size W4 b1 b2 hI4
    rw [hW4]
    clear hW4 hB3 hM3 hr3 ho3 hI4
    refine wpIn_rangeFunc_ownG rfl h1 (gf := 39) (lb := #[.pointer (some ⟨W3.heap.size, 0, none⟩), .pointer (some ⟨W3.heap.size + 1, 0, none⟩)]) rfl trivial (enters_of Tryd.func39 (by kernel_rfl) rfl)
      hbeh kc_t (kc_b (by omega)) (Below.refl _ _) (fun _ => rfl)
      (fun pre W => (BM W Br R' ∧ BM W Bo (opn R' O1 pre)) ∧ Marks w.heap.size W4.heap.size W ds ∧ Below w.heap.size w W)
      (fun _ _ _ => False)
      (OwnFrom.and (OwnFrom.and (Own.from (boxed_own Br 37 (fun _ : List Nat => .int .u64 (R' : Int))) _) (Own.from (boxed_own Bo 37 (fun pre : List Nat => .int .u64 ((opn R' O1 pre : Nat) : Int))) _)) (OwnFrom.and Marks.own (ownFrom_below (Nat.le_refl _) (by omega))))
      (fun _ _ _ _ _ hs _ _ => hs)
      ⟨⟨hr4, ho4⟩, hM4, hB4⟩
      (fun y => { tmps := #[.slice a len cap, undef, .int .u64 0, .pointer (some ⟨Br, 0, none⟩), .pointer (some ⟨Bo, 0, none⟩), .int .i64 (x : Int), .bool true, .int .i64 ((y : Nat) : Int), u8, u9, u10, u11, u12, u13, u14, u15, u16, u17, .bool true, u19, u20, u21, u22, u23, u24, u25, u26, u27, u28, u29, u30, u31, .slice a len cap, .int .i64 (x : Int), .func (.func 39) #[] #[.pointer (some ⟨W3.heap.size, 0, none⟩), .pointer (some ⟨W3.heap.size + 1, 0, none⟩)], .int .i64 ((y : Nat) : Int), u36, u37, u38, u39, u40, u41, u42, u43, undef], defers := [] }) ?assign ?body ?done ?stop
    case assign =>
      intro l y W K hK
      gi_wp2
      exact hK
    case body =>
      rintro l pre y W ⟨⟨hr, ho⟩, hM, hB⟩ hlt
      have c1 := hr.cell
      have c2 := ho.cell
      have hHas := fun W => Mk.has_any R' (y : Int) HWl.out.rlt W
      cases hb : Mk.hasb R' (y : Int) with
      | true =>
        rw [hb] at hHas
        have HHas := Lib.hid hHas
        have HE := Lib.hid (show opn R' O1 (pre ++ [y]) = opn R' O1 pre by rw [opn_snoc, if_pos hb])
        clear hHas hb
        gi_wp2_with (first
          | (gi_at_call 22; refine (CallsIn.inRound l (callsIn_wide.2 (HHas.out _))).mono ?_; rintro e w9 ⟨rfl, rfl⟩)
          | fail)
        exact ⟨(KeepsOthers.refl _).from _, kc_r _, ⟨hr, by rw [HE.out]; exact ho⟩, hM, hB⟩
      | false =>
        rw [hb] at hHas
        have HHas := Lib.hid hHas
        have HE := Lib.hid (show opn R' O1 (pre ++ [y]) = Mk.withN (opn R' O1 pre) [(y : Int)] by rw [opn_snoc, if_neg (by rw [hb]; simp)])
        have HWi := Lib.hid (withL (opn R' O1 pre) (opn_lt hO1lt pre) (y : Int) W.heap.size (W.alloc (.cells #[.int .i64 (y : Int)] 3)) (cell_new _ _ _).1)
        have c3 := (ho.alloc (.cells #[.int .i64 (y : Int)] 3)).cell
        have c4 := (ho.alloc (.cells #[.int .i64 (y : Int)] 3)).frozen
        clear hHas hb
        gi_wp2_with (first
          | (gi_at_call 22; refine (CallsIn.inRound l (callsIn_wide.2 (HHas.out _))).mono ?_; rintro e w9 ⟨rfl, rfl⟩)
          | (gi_at_call 28; refine (CallsIn.inRound l (callsIn_wide.2 HWi.out)).mono ?_; rintro e w9 ⟨rfl, rfl⟩)
          | fail)
        have hr2 : BM ((W.alloc (.cells #[.int .i64 (y : Int)] 3)).setCell ⟨Bo, 0, none⟩ (.int .u64 ((Mk.withN (opn R' O1 pre) [(y : Int)] : Nat) : Int))) Br R' := (hr.alloc _).other hne _
        have ho2 : BM ((W.alloc (.cells #[.int .i64 (y : Int)] 3)).setCell ⟨Bo, 0, none⟩ (.int .u64 ((Mk.withN (opn R' O1 pre) [(y : Int)] : Nat) : Int))) Bo (opn R' O1 (pre ++ [y])) := by rw [HE.out]; exact (ho.alloc _).set _
        have hb2 : Below w.heap.size W ((W.alloc (.cells #[.int .i64 (y : Int)] 3)).setCell ⟨Bo, 0, none⟩ (.int .u64 ((Mk.withN (opn R' O1 pre) [(y : Int)] : Nat) : Int))) := ((Below.refl _ W).alloc hB.size _).setCell (p := ⟨Bo, 0, none⟩) o0 _
        have hM2 := hM.keep (w' := ((W.alloc (.cells #[.int .i64 (y : Int)] 3)).setCell ⟨Bo, 0, none⟩ (.int .u64 ((Mk.withN (opn R' O1 pre) [(y : Int)] : Nat) : Int)))) (Nat.le_refl _) (fun D _ _ hD => (((Ch.refl [Bo] W).alloc (.cells #[.int .i64 (y : Int)] 3)).setCell (p := ⟨Bo, 0, none⟩) (by simp) (.int .u64 ((Mk.withN (opn R' O1 pre) [(y : Int)] : Nat) : Int))).block D (Array.getElem?_eq_some_iff.1 hD).1 (fun hm => by
          obtain rfl : D = Bo := by simpa using hm
          rw [show W.heap[D]? = _ from ho] at hD
          cases hD) |>.trans hD)
        exact ⟨((KeepsOthers.alloc _ _).trans (KeepsOthers.setCell _ _ _)).from _, ⟨hb2, fun u hu => (hu.alloc _).other (by omega) _, fun u hu => (hu.alloc _).other (by omega) _⟩, ⟨hr2, ho2⟩, hM2, hB.trans hb2⟩
    case done =>
      rintro D ys W hD rfl ⟨⟨hr, ho⟩, hM, hB⟩ hK
      have c2 := ho.cell
      have hDl := (Array.getElem?_eq_some_iff.1 hK).1
      have hM2 : Marks w.heap.size W.heap.size W ({ target := .collected D, args := #[] } :: ds) :=
        ⟨⟨D, rfl, by omega, hDl, hK, fun d' hd' e => by obtain ⟨D', h1, h2⟩ := hM.lt d' hd'; rw [h1] at e; cases e; omega⟩, hM.keep (by omega) (fun _ _ _ h => h)⟩
      have HMk := Lib.hid hM2
      have HBB := Lib.hid hB
      have HRr := Lib.hid hr
      have HOo := Lib.hid ho
      clear hM hM2 hB hr ho hK hDl
      gi_wp2_with fail
      refine HK1.out _ _ ?_
      clear HK1
      gi_wp2_with (first
        | (gi_at_call 27; with_reducible refine (callsIn_wide.2 (HNx.out _ HWl.out.olt _ HBB.out)).mono ?_; rintro e w2 ⟨rfl, hb2⟩)
        | fail)
      refine HK.out _ _ ?_
      refine ⟨noN R', by rw [← HM.out]; exact HMm.out, HJ.out _ _ _ ?_⟩
      refine ⟨_, _, _, _, _, _, _, _, _, _, _, _, _, _, _, _, _, _, _, _, _, _, _, _, _, _, _, _, _, _, _, _, R', opn R' O1 (bhl L (x : Int)), { target := .collected D, args := #[] } :: ds, rfl, ⟨HWl.out, (hb2.block Br HRr.out.lt).trans HRr.out, (hb2.block Bo HOo.out.lt).trans HOo.out, HBB.out.trans (hb2.mono HBB.out.size), ?_, r0, o0⟩, rfl⟩
      exact (HMk.out.ch (Ch.of_below (S := []) hb2) (by simp)).keep hb2.size (fun _ _ _ h => h)
    case stop =>
      rintro D c pre W _ _ h _
      exact h.elim
end Go.Proofs.YtadogffllkompaaDoor

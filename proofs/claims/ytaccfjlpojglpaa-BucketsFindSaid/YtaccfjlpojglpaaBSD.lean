/-
  A table of values of string: a key's entry as it stands in its chain.
-/
import Derived.Test.YtaccfjlpojglpaaBSC
namespace Go.Proofs.Ytaccfjlpojglpaa.bS
open Go.RowKit Go.Shelf

attribute [local go_sem] Oper.semAt_some

theorem boxed_put {W : World} {B D : Nat} {t : TypeId} {v : Value} (h : Boxed W B t v) {o : Obj} (hD : W.heap[D]? = some o) (ho : o.isCells = false) (o' : Obj) : Boxed (W.putObj D o') B t v :=
  (World.putObj_heap_other (fun e => by subst e; have h2 : W.heap[B]? = some (Obj.cells #[v] t (0, 0)) := h; rw [hD] at h2; cases h2; cases ho)).trans h
theorem ownFrom_chS {β : Type} {w : World} {T : List Nat} {B : Nat} (hB : w.heap.size ≤ B) : OwnFrom B (fun (_ : β) W => Ch T w W) := fun _ _ _ _ hs hg hr => hs.kept hg (fun r e => Nat.le_trans hB (hr r e).1)
theorem boxed_ch {T : List Nat} {w w' : World} {B : Nat} {t : TypeId} {v : Value} (h : Boxed w B t v) (hc : Ch T w w') (hB : B ∉ T) : Boxed w' B t v := (hc.block B h.lt hB).trans h
theorem not_last {pre : List Nat} {x m : Nat} (h : pre ++ [x] <+: List.range m) : x = pre.length ∧ x < m := by
  obtain ⟨h1, h2⟩ := range_pre h
  simp only [List.length_append, List.length_cons, List.length_nil] at h1 h2
  rw [List.range_succ] at h1
  have := List.append_inj_right' h1 rfl
  simp at this
  omega

/-- Where a key's entry stands. -/
structure At (w : World) (S R K n room : Nat) (H : Nat → Value) (L : List E) (k j : Nat) (x : E) (g cap : Nat) : Prop where
  tb : TB w S R K n room H L
  key : x.k = k
  pl : (chn n (bk n k) L)[j]? = some x
  hd : H (bk n k) = .slice (some ⟨g, 0, none⟩) (chn n (bk n k) L).length cap

set_option maxRecDepth 100000 in
set_option maxHeartbeats 2000000 in
theorem find_in (f S n : Nat) (p : Option Addr) (L : List E) (k : Nat) (w : World) (hT : TG w S p n L) :
    CallsIn Fence.wide (f + 6) Try.prog 40 #[.pointer p, .int .u64 (k : Int)] w fun e W' =>
      ((k ∉ ksE L ∧ e = .returned (.pointer none)) ∨ ∃ R K room H j x g cap, p = some ⟨R, 0, none⟩ ∧ At w S R K n room H L k j x g cap ∧ e = .returned (.pointer (some ⟨g, j * 2, none⟩))) ∧ Ch [] w W' := by
  have HT := Lib.hid hT
  have HB := Lib.hid (fun W (hW : Ch [] w W) => bucket_any (hT.quiet hW) k)
  clear hT
  have hw : ∀ f, Fence.wide.fn f := fun _ => trivial
  have hd : Fence.wide.depth = none := rfl
  have h1 : 1 ≤ f + 6 := by omega
  obtain ⟨b, hb⟩ : ∃ b, bk n k = b := ⟨_, rfl⟩
  rw [hb] at HB
  have HBk := Lib.hid hb
  clear hb
  refine callsIn_of_wp_marks Try.func40 rfl trivial ?_ rfl
  simp only [Try.ntmps40, List.size_toArray, List.length_cons, List.length_nil, Nat.reduceAdd, Nat.reduceSub, Array.replicate_succ, Array.replicate_zero, List.push_toArray, List.append_toArray, List.nil_append, List.cons_append]
  gi_wp2_with (first
    | (gi_at_call 42; refine (callsIn_wide.2 (HB.out _ ((((Ch.refl [] w).alloc _).alloc _).alloc _))).mono ?_; rintro e w' ⟨rfl, rfl⟩)
    | (gi_at_call 44; refine (places_in _ _ _ _).mono ?_; rintro e w' ⟨rfl, rfl⟩)
    | fail)
  obtain ⟨V1, hV1⟩ : ∃ V, V = w.alloc (.cells #[.pointer p] 56) := ⟨_, rfl⟩
  obtain ⟨V2, hV2⟩ : ∃ V, V = V1.alloc (.cells #[.int .u64 (k : Int)] 29) := ⟨_, rfl⟩
  obtain ⟨V3, hV3⟩ : ∃ V, V = V2.alloc (.cells #[.pointer none] 89) := ⟨_, rfl⟩
  obtain ⟨V4, hV4⟩ : ∃ V, V = V3.alloc (.cells #[.int .i64 (b : Int)] 3) := ⟨_, rfl⟩
  obtain ⟨V5, hV5⟩ : ∃ V, V = V4.alloc (.cells #[.pointer p] 56) := ⟨_, rfl⟩
  obtain ⟨W0, hW0⟩ : ∃ V, V = V5.alloc (.cells #[.int .i64 (b : Int)] 3) := ⟨_, rfl⟩
  have s1 : V1.heap.size = w.heap.size + 1 := by rw [hV1]; simp
  have s2 : V2.heap.size = w.heap.size + 1 + 1 := by rw [hV2]; simp [s1]
  have s3 : V3.heap.size = w.heap.size + 1 + 1 + 1 := by rw [hV3]; simp [s2]
  have s4 : V4.heap.size = w.heap.size + 1 + 1 + 1 + 1 := by rw [hV4]; simp [s3]
  have s5 : V5.heap.size = w.heap.size + 1 + 1 + 1 + 1 + 1 := by rw [hV5]; simp [s4]
  have hsz : W0.heap.size = w.heap.size + 1 + 1 + 1 + 1 + 1 + 1 := by rw [hW0]; simp [s5]
  have hc0 : Ch [] w W0 := by rw [hW0, hV5, hV4, hV3, hV2, hV1]; exact ((((((Ch.refl [] w).alloc _).alloc _).alloc _).alloc _).alloc _).alloc _
  have q0 : Boxed W0 w.heap.size 56 (.pointer p) := by rw [hW0, hV5, hV4, hV3, hV2, hV1]; exact (((((Boxed.new w _ _).alloc _).alloc _).alloc _).alloc _).alloc _
  have q1 : Boxed W0 (w.heap.size + 1) 29 (.int .u64 (k : Int)) := by rw [hW0, hV5, hV4, hV3, hV2, ← s1]; exact ((((Boxed.new V1 _ _).alloc _).alloc _).alloc _).alloc _
  have q2 : Boxed W0 (w.heap.size + 1 + 1) 89 (.pointer none) := by rw [hW0, hV5, hV4, hV3, ← s2]; exact (((Boxed.new V2 _ _).alloc _).alloc _).alloc _
  have q3 : Boxed W0 (w.heap.size + 1 + 1 + 1) 3 (.int .i64 (b : Int)) := by rw [hW0, hV5, hV4, ← s3]; exact ((Boxed.new V3 _ _).alloc _).alloc _
  have q4 : Boxed W0 (w.heap.size + 1 + 1 + 1 + 1) 56 (.pointer p) := by rw [hW0, hV5, ← s4]; exact (Boxed.new V4 _ _).alloc _
  have q5 : Boxed W0 (w.heap.size + 1 + 1 + 1 + 1 + 1) 3 (.int .i64 (b : Int)) := by rw [hW0, ← s5]; exact Boxed.new V5 _ _
  rw [← hV1, ← hV2, ← hV3, ← hV4, ← hV5, ← hW0]
  clear hV1 hV2 hV3 hV4 hV5 hW0 s1 s2 s3 s4 s5
  have HT0 := Lib.hid (HT.out.quiet hc0)
  have HC0 := Lib.hid hc0
  obtain ⟨C, hC⟩ : ∃ C, C = chI n L (b : Int) := ⟨_, rfl⟩
  have hseq := places_stops (f + 6 - 1) W0 q5.cell q4.cell HT0.out
  rw [← hC] at hseq
  have HC := Lib.hid hC
  clear hC hc0
  refine wpIn_range_p rfl h1 (gf := 56) (lb := #[.pointer (some ⟨w.heap.size + 1 + 1 + 1 + 1 + 1, 0, none⟩), .pointer (some ⟨w.heap.size + 1 + 1 + 1 + 1, 0, none⟩)]) rfl trivial (enters_of Try.func56 (by kernel_rfl) rfl)
    hseq
    (fun A B hAB k o hk _ _ => (hAB.block k (Array.getElem?_eq_some_iff.1 hk).1 (by simp)).trans hk)
    (fun h g => h.trans g) (fun W l o o' _ ho hc _ _ => KpT.put W l o o' ho hc) (fun _ => rfl)
    (fun pre W => Ch [] W0 W ∧ ∀ j ∈ pre, kA C j ≠ k)
    (fun c pre W => c = .ret ∧ ∃ R K room H j x g cap, p = some ⟨R, 0, none⟩ ∧ At w S R K n room H L k j x g cap ∧ Boxed W (w.heap.size + 1 + 1) 89 (.pointer (some ⟨g, j * 2, none⟩)) ∧ Ch [w.heap.size + 1 + 1] W0 W)
    (OwnFrom.and (ownFrom_chS (Nat.le_refl _)) (ownFrom_pure _ (fun pre : List Nat => ∀ j ∈ pre, kA C j ≠ k)))
    (fun s A B hs hc => ⟨hs.1.trans hc, hs.2⟩)
    (fun c s W W' row hs hg hr => by
      obtain ⟨h1, R, K, room, H, j, x, g, cap, h2, h3, h4, h5⟩ := hs
      exact ⟨h1, R, K, room, H, j, x, g, cap, h2, h3, h4.kept hg (fun e => by have := (hr _ e.symm).1; omega), h5.kept hg (fun r e => (hr r e).1)⟩)
    ⟨Ch.refl _ _, by simp⟩
    (fun x => { tmps := #[.pointer p, .int .u64 (k : Int), .pointer (some ⟨w.heap.size, 0, none⟩), .pointer (some ⟨w.heap.size + 1, 0, none⟩), .pointer (some ⟨w.heap.size + 1 + 1, 0, none⟩), .pointer (some ⟨w.heap.size + 1 + 1 + 1, 0, none⟩), .int .i64 (x : Int), .int .u64 ((kA C x : Nat) : Int), .pointer p, .int .u64 (k : Int), .int .i64 (b : Int), .pointer p, .int .i64 (b : Int), .func (.func 56) #[] #[.pointer (some ⟨w.heap.size + 1 + 1 + 1 + 1 + 1, 0, none⟩), .pointer (some ⟨w.heap.size + 1 + 1 + 1 + 1, 0, none⟩)], .int .i64 (x : Int), .int .u64 ((kA C x : Nat) : Int), undef, undef, undef, undef, undef, undef, undef, undef, undef, undef, undef, undef], defers := [] }) ?assign ?body ?done ?stop
  case assign =>
    intro l x W K hK
    gi_wp2
    exact hK
  case body =>
    rintro l pre x W ⟨hq, hno⟩ hpre
    obtain ⟨hx, hxm⟩ := not_last hpre
    have c0 := (boxed_ch q0 hq (by simp)).cell
    have c1 := (boxed_ch q1 hq (by simp)).cell
    have c2 := (boxed_ch q2 hq (by simp)).cell
    have f2 := (boxed_ch q2 hq (by simp)).frozen
    have c3 := (boxed_ch q3 hq (by simp)).cell
    have HQ := Lib.hid hq
    have HBx := Lib.hid (boxed_ch q2 hq (by simp))
    obtain ⟨e, he⟩ : ∃ e, C[x]? = some e := ⟨_, List.getElem?_eq_getElem hxm⟩
    have hka := kA_at he
    obtain ⟨y, hy⟩ : ∃ y, kA C x = y := ⟨_, rfl⟩
    rw [hy] at hka ⊢
    have HY := Lib.hid hy
    by_cases hk : y = k
    · subst hk
      rcases HT.out with ⟨_, h0, hL0⟩ | ⟨R, K, room, H, rfl, ht⟩
      · rw [HC.out, hL0] at he
        unfold chI at he
        split at he <;> cases he
      have hbn : b < n := by
        rw [← HBk.out]
        exact bk_lt (by have := ht.hn; omega) _
      have hCe : C = chn n b L := by rw [HC.out, chI_in hbn]
      have htW := ht.quiet (HC0.out.trans hq)
      have t1 := htW.c1
      obtain ⟨tH, _⟩ := htW.head hbn
      have hrow := htW.rows b hbn
      rw [← hCe] at hrow
      obtain ⟨a, cap, hf, hl1, hl2, _, hat⟩ := CR.form hrow
      obtain ⟨g, rfl, k0, _, _⟩ := hat x e he
      have HAt := Lib.hid (show At w S R K n room H L y x e g cap from ⟨ht, hka.symm, by rw [HBk.out, ← hCe]; exact he, by rw [HBk.out, ← hCe]; exact hf⟩)
      obtain ⟨m, hm⟩ : ∃ m, m = C.length := ⟨_, rfl⟩
      rw [← hm] at hf hl1 hxm
      have hb0 : (0 : Int) ≤ (b : Int) := by omega
      have hb1 : (b : Int) < (n : Int) := by omega
      have hx0 : (0 : Int) ≤ (x : Int) := by omega
      have hx1 : (x : Int) < (m : Int) := by omega
      rw [hf] at tH
      have hlt := ht.lt
      have HSm := Lib.hid (show w.heap.size + 1 + 1 ≠ w.heap.size ∧ w.heap.size + 1 + 1 ≠ R ∧ w.heap.size + 1 + 1 ≠ w.heap.size + 1 + 1 + 1 ∧ w.heap.size + 1 + 1 ≠ K by omega)
      have hyy : ((y : Int) == (y : Int)) = true := by simp
      clear hq hno hpre hx he hka hy hCe htW hrow hat k0 hm ht hf hlt q0 q1 q2 q3 q4 q5 hseq hl1 hl2
      gi_wp2_with fail
      refine wpIn_region_round (S := fun w' => w'.cell? ⟨w.heap.size, 0, none⟩ = some (.pointer (some ⟨R, 0, none⟩)) ∧ w'.cell? ⟨R, 1, none⟩ = some (.slice (some ⟨K, 0, none⟩) n n) ∧ w'.cell? ⟨w.heap.size + 1 + 1 + 1, 0, none⟩ = some (.int .i64 (b : Int)) ∧ w'.cell? ⟨K, b, none⟩ = some (.slice (some ⟨g, 0, none⟩) m cap)) (by kernel_rfl) (by kernel_rfl) (fun ⟨_, _, h⟩ => h) ⟨c0, t1, c3, tH⟩ (fun hHeld => ?_)
      refine wpAnyH_take (i := 0) (oi := { dst := some 19, op := _, type := _, pos := _, after := _, guard := _ }) (v := ?v1_0) rfl (by kernel_rfl) (by kernel_rfl) (by kernel_rfl) (fun _ _ _ h => h) (.inl ⟨by rfl, ?h1_0⟩) (by assumption) ?_
      case h1_0 => intro w hSw; obtain ⟨hs0, hs1, hs2, hs3⟩ := hSw; go_simp; (try with_reducible rfl)
      try simp only [Act.put, List.setIfInBounds_toArray, List.set_cons_zero, List.set_cons_succ]
      refine wpAnyH_take (i := 1) (oi := { dst := some 20, op := _, type := _, pos := _, after := _, guard := _ }) (v := ?v2_1) rfl (by kernel_rfl) (by kernel_rfl) (by kernel_rfl) (fun _ _ _ h => h) (.inl ⟨by rfl, ?h2_1⟩) (by assumption) ?_
      case h2_1 => intro w hSw; obtain ⟨hs0, hs1, hs2, hs3⟩ := hSw; go_simp; (try with_reducible rfl)
      try simp only [Act.put, List.setIfInBounds_toArray, List.set_cons_zero, List.set_cons_succ]
      refine wpAnyH_take (i := 2) (oi := { dst := some 21, op := _, type := _, pos := _, after := _, guard := _ }) (v := ?v3_2) rfl (by kernel_rfl) (by kernel_rfl) (by kernel_rfl) (fun _ _ _ h => h) (.inl ⟨by rfl, ?h3_2⟩) (by assumption) ?_
      case h3_2 => intro w hSw; obtain ⟨hs0, hs1, hs2, hs3⟩ := hSw; go_simp; (try with_reducible rfl)
      try simp only [Act.put, List.setIfInBounds_toArray, List.set_cons_zero, List.set_cons_succ]
      refine wpAnyH_take (i := 3) (oi := { dst := some 22, op := _, type := _, pos := _, after := _, guard := _ }) (v := ?v4_3) rfl (by kernel_rfl) (by kernel_rfl) (by kernel_rfl) (fun _ _ _ h => h) (.inl ⟨by rfl, ?h4_3⟩) (by assumption) ?_
      case h4_3 => intro w hSw; obtain ⟨hs0, hs1, hs2, hs3⟩ := hSw; go_simp; (try with_reducible rfl)
      try simp only [Act.put, List.setIfInBounds_toArray, List.set_cons_zero, List.set_cons_succ]
      refine wpAnyH_take (i := 4) (oi := { dst := some 23, op := _, type := _, pos := _, after := _, guard := _ }) (v := ?v5_4) rfl (by kernel_rfl) (by kernel_rfl) (by kernel_rfl) (fun _ _ _ h => h) (.inl ⟨by rfl, ?h5_4⟩) (by assumption) ?_
      case h5_4 => intro w hSw; obtain ⟨hs0, hs1, hs2, hs3⟩ := hSw; go_simp; (try with_reducible rfl)
      try simp only [Act.put, List.setIfInBounds_toArray, List.set_cons_zero, List.set_cons_succ]
      refine wpAnyH_take (i := 5) (oi := { dst := some 24, op := _, type := _, pos := _, after := _, guard := _ }) (v := ?v6_5) rfl (by kernel_rfl) (by kernel_rfl) (by kernel_rfl) (fun _ _ _ h => h) (.inl ⟨by rfl, ?h6_5⟩) (by assumption) ?_
      case h6_5 => intro w hSw; obtain ⟨hs0, hs1, hs2, hs3⟩ := hSw; go_simp; (try with_reducible rfl)
      try simp only [Act.put, List.setIfInBounds_toArray, List.set_cons_zero, List.set_cons_succ]
      refine wpAnyH_take (i := 6) (oi := { dst := some 25, op := _, type := _, pos := _, after := _, guard := _ }) (v := ?v7_6) rfl (by kernel_rfl) (by kernel_rfl) (by kernel_rfl) (fun _ _ _ h => h) (.inl ⟨by rfl, ?h7_6⟩) (by assumption) ?_
      case h7_6 => intro w hSw; obtain ⟨hs0, hs1, hs2, hs3⟩ := hSw; go_simp; (try with_reducible rfl)
      try simp only [Act.put, List.setIfInBounds_toArray, List.set_cons_zero, List.set_cons_succ]
      refine wpAnyH_take (i := 7) (oi := { dst := some 26, op := _, type := _, pos := _, after := _, guard := _ }) (v := ?v8_7) rfl (by kernel_rfl) (by kernel_rfl) (by kernel_rfl) (fun _ _ _ h => h) (.inl ⟨by rfl, ?h8_7⟩) (by assumption) ?_
      case h8_7 => intro w hSw; obtain ⟨hs0, hs1, hs2, hs3⟩ := hSw; go_simp; (try with_reducible rfl)
      try simp only [Act.put, List.setIfInBounds_toArray, List.set_cons_zero, List.set_cons_succ]
      refine wpAnyH_take (i := 8) (oi := { dst := some 27, op := _, type := _, pos := _, after := _, guard := _ }) (v := ?v9_8) rfl (by kernel_rfl) (by kernel_rfl) (by kernel_rfl) (fun _ _ _ h => h) (.inl ⟨by rfl, ?h9_8⟩) (by assumption) ?_
      case h9_8 => intro w hSw; obtain ⟨hs0, hs1, hs2, hs3⟩ := hSw; go_simp; (try with_reducible rfl)
      try simp only [Act.put, List.setIfInBounds_toArray, List.set_cons_zero, List.set_cons_succ]
      refine wpAnyH_ready (rs := [9]) (by kernel_rfl) (by simp) ?_
      refine AllReadyH.cons (o := { dst := none, op := _, type := _, pos := _, after := _, guard := _ }) rfl (fun K hK => ?_) AllReadyH.nil
      go_simp
      refine hK.out _ _ ⟨setCell_other c0 (addr_ne_block HSm.out.1), setCell_other t1 (addr_ne_block HSm.out.2.1), setCell_other c3 (addr_ne_block HSm.out.2.2.1), setCell_other tH (addr_ne_block HSm.out.2.2.2)⟩ (fun hHeld => ?_)
      clear hK K
      try simp only [Act.put, List.setIfInBounds_toArray, List.set_cons_zero, List.set_cons_succ]
      refine wpAnyH_done (by kernel_rfl) ?_ _
      clear hHeld
      gi_wp2
      exact ⟨((KeepsOthers.setCell W ⟨w.heap.size + 1 + 1, 0, none⟩ _).trans (KeepsOthers.drew _)).from _, rfl, R, K, room, H, x, e, g, cap, rfl, HAt.out, HBx.out.set _, ((HQ.out.mono (T := [w.heap.size + 1 + 1]) (by simp)).setCell (p := ⟨w.heap.size + 1 + 1, 0, none⟩) (by simp) _).drew⟩
    · have hyk : ((y : Int) == (k : Int)) = false := by simp; omega
      have hno2 : ∀ j ∈ pre ++ [x], kA C j ≠ k := by
        intro j hj
        rcases List.mem_append.1 hj with hj | hj
        · exact hno j hj
        · obtain rfl : j = x := by simpa using hj
          rw [HY.out]; exact hk
      have HNo := Lib.hid hno2
      clear hq hno hno2 hpre hx he hka hy q0 q1 q2 q3 q4 q5 hseq
      gi_wp2
      exact ⟨(KeepsOthers.refl _).from _, KpT.ch (Ch.refl _ _), HQ.out, HNo.out⟩
  case done =>
    rintro D ys W hD rfl ⟨hq, hno⟩ hK
    have d0 := (boxed_ch q2 hq (by simp)).cell
    have d1 := (boxed_ch q2 hq (by simp)).frozen
    have HBx := Lib.hid (boxed_ch q2 hq (by simp))
    have HQ := Lib.hid hq
    have HNo := Lib.hid (show k ∉ ksE L from fun hm => by
      have h2 : k ∈ ksE C := by
        rcases HT.out with ⟨_, h0, hL0⟩ | ⟨R, K, room, H, rfl, ht⟩
        · rw [hL0] at hm; cases hm
        · have hbn : b < n := by
            rw [← HBk.out]
            exact bk_lt (by have := ht.hn; omega) _
          rw [HC.out, chI_in hbn, ← HBk.out]
          exact chn_key.2 hm
      obtain ⟨e, he, hek⟩ := ksE_mem.1 h2
      obtain ⟨j, hj, hje⟩ := List.mem_iff_getElem.1 he
      have h3 : C[j]? = some e := by rw [← hje]; exact List.getElem?_eq_getElem hj
      exact hno j (List.mem_range.2 hj) (by rw [kA_at h3, hek]))
    clear hno hq q0 q1 q2 q3 q4 q5 hseq
    gi_wp2
    have hK2 := (KeepsOthers.setCell W ⟨w.heap.size + 1 + 1, 0, none⟩ (.pointer none)).same D _ hK rfl
    have hq2 : Ch [w.heap.size + 1 + 1] W0 (W.setCell ⟨w.heap.size + 1 + 1, 0, none⟩ (.pointer none)) := (HQ.out.mono (T := [w.heap.size + 1 + 1]) (by simp)).setCell (p := ⟨w.heap.size + 1 + 1, 0, none⟩) (by simp) _
    have hb2 : Boxed (W.setCell ⟨w.heap.size + 1 + 1, 0, none⟩ (.pointer none)) (w.heap.size + 1 + 1) 89 (.pointer none) := HBx.out.set _
    generalize W.setCell ⟨w.heap.size + 1 + 1, 0, none⟩ (.pointer none) = WZ at *
    refine ⟨by simp, .inl ⟨_, _, rfl, run_takeDeferred hK2, ?_⟩⟩
    have j1 := (boxed_put hb2 hK2 rfl (.deferred none)).cell
    refine ⟨.pointer none, ?_, .inl ⟨HNo.out, rfl⟩, ?_⟩
    · simp [results, Try.f40, go_sem, j1]
    · exact HC0.out.fresh ((ownFrom_chS (β := Unit) (w := W0) (T := [w.heap.size + 1 + 1]) (Nat.le_refl _)) () WZ _ (some D) hq2 (grownBy_putObj' WZ D _) (fun r e => by cases e; exact ⟨by omega, _, hK2, rfl⟩)) (by simp; omega)
  case stop =>
    rintro D c pre W hD hpre ⟨rfl, R, K, room, H, j, x, g, cap, hp, hat, hbx, hch⟩ hK
    have HAt := Lib.hid hat
    have HP := Lib.hid hp
    clear hat hp hpre q0 q1 q2 q3 q4 q5 hseq
    gi_wp2
    refine ⟨by simp, .inl ⟨_, _, rfl, run_takeDeferred hK, ?_⟩⟩
    have j1 := (boxed_put hbx hK rfl (.deferred none)).cell
    refine ⟨.pointer (some ⟨g, j * 2, none⟩), ?_, .inr ⟨R, K, room, H, j, x, g, cap, HP.out, HAt.out, rfl⟩, ?_⟩
    · simp [results, Try.f40, go_sem, j1]
    · exact HC0.out.fresh ((ownFrom_chS (β := Unit) (w := W0) (T := [w.heap.size + 1 + 1]) (Nat.le_refl _)) () W _ (some D) hch (grownBy_putObj' W D _) (fun r e => by cases e; exact ⟨by omega, _, hK, rfl⟩)) (by simp; omega)
theorem find_any {S n : Nat} {p : Option Addr} {L : List E} (k : Nat) {w : World} (hT : TG w S p n L) :
    Calls Try.prog 40 #[.pointer p, .int .u64 (k : Int)] w fun e W' =>
      ((k ∉ ksE L ∧ e = .returned (.pointer none)) ∨ ∃ R K room H j x g cap, p = some ⟨R, 0, none⟩ ∧ At w S R K n room H L k j x g cap ∧ e = .returned (.pointer (some ⟨g, j * 2, none⟩))) ∧ Ch [] w W' := callsIn_wide.1 (find_in 0 S n p L k w hT)
end Go.Proofs.Ytaccfjlpojglpaa.bS

/-
  The document's answer for the bank: its list of wheels as a row; Find, Next, Set, New.
-/
import Derived.Test.YtnndofeomakpiaaGreatDoorBkK
import Derived.Test.YtnndofeomakpiaaGreatDoorWpF
namespace Go.Proofs.YtnndofeomakpiaaGreatDoor
open Go.RowKit Go.Maps

attribute [local go_sem] Oper.semAt_some

theorem infoW : (Tryz.prog.info? 58).map (fun i => (i.zero, i.size, i.bytes)) = some (some (.agg #[.int .u64 0, .slice none 0 0]), 2, 32) := by kernel_rfl
/-- The cells of a list of wheels. -/
def wcl (n : Nat) (f : Nat → Wh) (vs : Nat → Value) : List Value := (List.range n).flatMap fun i => [.int .u64 (f i).now, vs i]
theorem wcl_succ (n : Nat) (f : Nat → Wh) (vs : Nat → Value) : wcl (n + 1) f vs = wcl n f vs ++ [.int .u64 (f n).now, vs n] := by simp [wcl, List.range_succ]
theorem wcl_len (n : Nat) (f : Nat → Wh) (vs : Nat → Value) : (wcl n f vs).length = n * 2 := by
  induction n with
  | zero => rfl
  | succ n ih => rw [wcl_succ, List.length_append, ih]; simp; omega
theorem wcl_at (n : Nat) (f : Nat → Wh) (vs : Nat → Value) {i : Nat} (hi : i < n) : (wcl n f vs)[i * 2]? = some (.int .u64 (f i).now) ∧ (wcl n f vs)[i * 2 + 1]? = some (vs i) := by
  induction n with
  | zero => omega
  | succ n ih =>
    rw [wcl_succ]
    have hl := wcl_len n f vs
    by_cases e : i = n
    · subst e
      rw [List.getElem?_append_right (by omega), List.getElem?_append_right (by omega), hl, show i * 2 - i * 2 = 0 by omega, show i * 2 + 1 - i * 2 = 1 by omega]
      exact ⟨rfl, rfl⟩
    · have h := ih (by omega)
      rw [List.getElem?_append_left (by omega), List.getElem?_append_left (by omega)]
      exact h
theorem wcl_congr {n : Nat} {f g : Nat → Wh} {vs us : Nat → Value} (h : ∀ i, i < n → (f i).now = (g i).now ∧ vs i = us i) : wcl n f vs = wcl n g us := by
  induction n with
  | zero => rfl
  | succ n ih => rw [wcl_succ, wcl_succ, ih (fun i hi => h i (by omega)), (h n (by omega)).1, (h n (by omega)).2]
theorem wcl_set (n : Nat) (f : Nat → Wh) (vs : Nat → Value) {c : Nat} (hc : c < n) (x : Wh) (u : Value) :
    ((wcl n f vs).set (c * 2) (.int .u64 x.now)).set (c * 2 + 1) u = wcl n (updW f c x) (fun i => if i = c then u else vs i) := by
  induction n with
  | zero => omega
  | succ n ih =>
    rw [wcl_succ, wcl_succ]
    have hl := wcl_len n f vs
    by_cases e : c = n
    · subst e
      rw [List.set_append_right _ _ (by omega), List.set_append_right _ _ (by omega), hl, show c * 2 - c * 2 = 0 by omega, show c * 2 + 1 - c * 2 = 1 by omega]
      rw [wcl_congr (g := updW f c x) (us := fun i => if i = c then u else vs i) (fun i hi => ⟨by rw [updW_other f x (by omega)], by rw [if_neg (by omega)]⟩)]
      simp [updW_same]
    · rw [List.set_append_left _ _ (by omega), List.set_append_left _ _ (by rw [List.length_set]; omega), ih (by omega), updW_other f x (by omega), if_neg (by omega)]
theorem wcl_one (n : Nat) (f : Nat → Wh) (vs : Nat → Value) (h : ∀ i, i < n → (vs i).oneCell' = true) : ∀ u ∈ wcl n f vs, u.oneCell' = true := by
  intro u hu
  unfold wcl at hu
  obtain ⟨i, hi, hm⟩ := List.mem_flatMap.1 hu
  have := List.mem_range.1 hi
  rcases List.mem_cons.1 hm with rfl | hm
  · rfl
  · obtain rfl : u = vs i := by simpa using hm
    exact h i this
/-- The answer's list of wheels: it tells the ticks and the timers of f; P: what holds of each of its blocks. -/
structure RB (w : World) (D : Nat) (m : Value) (n : Nat) (f : Nat → Wh) (P : Nat → Prop) : Prop where
  row : ∃ vs : Nat → Value, w.ownsRow D 58 2 m n (wcl n f vs) ∧ ∀ i, i < n → RT w D (vs i) (f i).L ∧ ∀ g, (vs i).ownBlock = some g → P g
  own : ∀ g, m.ownBlock = some g → P g
section
variable {w w' : World} {D n : Nat} {m : Value} {f g : Nat → Wh} {P Q : Nat → Prop}
theorem RB.chP {T : Nat → Prop} (h : RB w D m n f P) (hc : ChP T w w') (hT : ∀ k, P k → ¬ T k) : RB w' D m n f P := by
  obtain ⟨vs, h1, h2⟩ := h.row
  exact ⟨⟨vs, own_chP h1 hc (fun g hg => hT g (h.own g hg)), fun i hi => ⟨(h2 i hi).1.chP hc (fun g hg => hT g ((h2 i hi).2 g hg)), (h2 i hi).2⟩⟩, h.own⟩
theorem RB.quiet (h : RB w D m n f P) (hc : Ch [] w w') : RB w' D m n f P := h.chP (T := fun _ => False) (.quiet hc) (fun _ _ => id)
theorem RB.mono (h : RB w D m n f P) (hPQ : ∀ k, P k → k < w.heap.size → Q k) : RB w D m n f Q := by
  obtain ⟨vs, h1, h2⟩ := h.row
  exact ⟨⟨vs, h1, fun i hi => ⟨(h2 i hi).1, fun g hg => hPQ g ((h2 i hi).2 g hg) (World.ownsRow.lt (h2 i hi).1 g hg).2⟩⟩, fun g hg => hPQ g (h.own g hg) (h1.lt g hg).2⟩
theorem RB.congr (h : RB w D m n f P) (e : ∀ i, i < n → (g i).now = (f i).now ∧ (g i).L = (f i).L) : RB w D m n g P := by
  obtain ⟨vs, h1, h2⟩ := h.row
  refine ⟨⟨vs, ?_, fun i hi => ⟨by rw [(e i hi).2]; exact (h2 i hi).1, (h2 i hi).2⟩⟩, h.own⟩
  rw [wcl_congr (g := f) (us := vs) (fun i hi => ⟨(e i hi).1, rfl⟩)]
  exact h1
/-- One wheel of the list. -/
theorem RB.at (h : RB w D m n f P) {i : Nat} (hi : i < n) : ∃ gb cp a lc cc, m = .slice (some ⟨gb, 0, none⟩) n cp ∧ P gb ∧ gb < w.heap.size ∧ w.cell? ⟨gb, i * 2, none⟩ = some (.int .u64 (f i).now) ∧ w.cell? ⟨gb, i * 2 + 1, none⟩ = some (.slice a lc cc) ∧ lc = (f i).L.length ∧ RT w D (.slice a lc cc) (f i).L := by
  obtain ⟨vs, h1, h2⟩ := h.row
  obtain ⟨e1, e2⟩ := wcl_at n f vs hi
  obtain ⟨a, cc, hv⟩ := own_form (h2 i hi).1
  rcases h1.2 with ⟨_, h0⟩ | ⟨gb, cp, cur, rfl, hb, hg, hn, _⟩
  · omega
  · refine ⟨gb, cp, a, (f i).L.length, cc, rfl, h.own gb rfl, (h1.lt gb rfl).2, ?_, ?_, rfl, hv ▸ (h2 i hi).1⟩
    · rw [World.ownsRow.cellAt h1 (i * 2) (by omega)]; exact e1
    · rw [World.ownsRow.cellAt h1 (i * 2 + 1) (by omega), e2, hv]
theorem RB.form (h : RB w D m n f P) : ∃ a cap, m = .slice a n cap := by obtain ⟨vs, h1, _⟩ := h.row; exact own_form h1
end
/-- Find's answer: whose wheel; below 0: nobody's. -/
def fR (f : Nat → Wh) (n : Nat) (k : Int) : Int := match ownO f n k with | some c => (c : Int) | none => -1
theorem ix_neg {L : List Tm} {k : Int} : (ixOf L k < 0 ↔ lookB L k = false) := by
  by_cases h : ∃ t ∈ L, t.id = k
  · rw [lookB_iff.2 h]
    unfold ixOf
    cases e : L.findIdx? (fun t => decide (t.id = k)) with
    | none =>
      exfalso
      obtain ⟨t, ht, hk⟩ := h
      have := List.findIdx?_eq_none_iff.1 e t ht
      simp [hk] at this
    | some i => simp
  · have hb : lookB L k = false := by
      cases e : lookB L k with
      | false => rfl
      | true => exact absurd (lookB_iff.1 e) h
    rw [hb, ixOf_neg (fun t ht e => h ⟨t, ht, e⟩)]
    simp
set_option maxRecDepth 100000 in
set_option maxHeartbeats 1000000 in
theorem rbfind_any {w : World} {D n : Nat} {m : Value} {f : Nat → Wh} {P : Nat → Prop} (h : RB w D m n f P) (hn : n ≤ 64) (hl : ∀ i, i < n → (f i).L.length ≤ 256) (k : Int) :
    Calls Tryz.prog 15 #[m, .int .i64 k] w fun e w' => e = .returned (.int .i64 (fR f n k)) ∧ Ch [] w w' := by
  obtain ⟨a, cap, rfl⟩ := h.form
  obtain ⟨R, hR⟩ : ∃ R, R = fR f n k := ⟨_, rfl⟩
  rw [← hR]
  have HH := Lib.hid h
  have HL := Lib.hid hl
  have HR := Lib.hid hR
  clear h hl hR
  go_enter Tryz.func15, Tryz.ntmps15
  go_wp2_with fail
  go_loopw [5] (fun ix wr => ∃ i : Nat, i ≤ n ∧ ix = .int .i64 (i : Int) ∧ Ch [] w wr ∧ ∀ j, j < i → lookB (f j).L k = false) (fun ix _ => n - (intOf ix).toNat)
  case atStart => exact ⟨0, Nat.zero_le _, rfl, Ch.refl _ _, fun j hj => by omega⟩
  case round =>
    obtain ⟨i, hi, rfl, hc, hno⟩ := hrel
    have HC := Lib.hid hc
    have HNo := Lib.hid hno
    by_cases hlt : i < n
    · have hlt' : (i : Int) < (n : Int) := by omega
      have hi0 : (0 : Int) ≤ (i : Int) := by omega
      obtain ⟨gb, cp, av, lc, cc, e, _, _, c0, c1, hlc, hrt⟩ := (HH.out.quiet hc).at hlt
      obtain ⟨rfl, rfl⟩ : a = some ⟨gb, 0, none⟩ ∧ cap = cp := by simpa using e
      have hF := rfind_any (f i).now k hrt (HL.out i hlt)
      obtain ⟨x, hx⟩ : ∃ x, x = ixOf (f i).L k := ⟨_, rfl⟩
      rw [← hx] at hF
      unfold rw7 at hF
      have HF := Lib.hid hF
      have HX := Lib.hid hx
      by_cases hx0 : x < 0
      · have hd : decide (x ≥ 0) = false := decide_eq_false (by omega)
        have HB := Lib.hid (show lookB (f i).L k = false from ix_neg.1 (by rw [← hx]; exact hx0))
        clear e hc hno hrt hF hx hx0 hlc
        go_wp2_with fail
        with_reducible refine HF.out.mono ?_
        rintro e w2 ⟨rfl, hc2⟩
        have HC2 := Lib.hid (HC.out.trans hc2)
        clear hc2
        go_frame
        go_wp2_with fail
        go_roundw
        case rel => exact ⟨i + 1, by omega, by go_num, HC2.out, fun j hj => by
          by_cases e : j = i
          · rw [e]; exact HB.out
          · exact HNo.out j (by omega)⟩
        case measure => simp [intOf]; omega
      · have hd : decide (x ≥ 0) = true := decide_eq_true (by omega)
        have HB := Lib.hid (show R = (i : Int) by
          rw [HR.out]
          have hb : lookB (f i).L k = true := by
            cases h : lookB (f i).L k with
            | true => rfl
            | false => exact absurd (ix_neg.2 h) (by rw [← hx]; exact hx0)
          have ho : ownO f n k = some i := by
            unfold ownO
            rw [List.find?_eq_some_iff_append]
            refine ⟨hb, List.range i, List.range' (i + 1) (n - i - 1), ?_, fun j hj => by simp [hno j (List.mem_range.1 hj)]⟩
            rw [List.range_eq_range', List.range_eq_range', show i :: List.range' (i + 1) (n - i - 1) = List.range' i (n - i) by
              rw [show n - i = (n - i - 1) + 1 by omega, List.range'_succ]
              simp]
            have := List.range'_append (s := 0) (m := i) (n := n - i) (step := 1)
            simp at this
            rw [this, show i + (n - i) = n by omega]
          unfold fR
          rw [ho])
        clear e hc hno hrt hF hx hx0 hlc
        go_wp2_with fail
        with_reducible refine HF.out.mono ?_
        rintro e w2 ⟨rfl, hc2⟩
        have HC2 := Lib.hid (HC.out.trans hc2)
        clear hc2
        go_frame
        go_wp2_with fail
        go_ret
        exact ⟨by rw [HB.out]; rfl, HC2.out⟩
    · obtain rfl : i = n := by omega
      have HB := Lib.hid (show R = -1 by
        rw [HR.out]
        have ho : ownO f i k = none := by
          unfold ownO
          rw [List.find?_eq_none]
          intro j hj
          simp [hno j (List.mem_range.1 hj)]
        unfold fR
        rw [ho])
      clear hc hno
      go_wp2_with fail
      go_ret
      exact ⟨by rw [HB.out]; rfl, HC.out⟩
/-- Next of one wheel. -/
theorem rbnext_any {w : World} {D : Nat} {now : Int} {v : Value} {L : List Tm} (h : RT w D v L) (hl : L.length ≤ 256) (hr : Rising L) (hnd : (L.map (·.id)).Nodup) :
    Calls Tryz.prog 18 #[rw7 now v] w fun e w' => e = .returned (.tuple #[.int .u64 (nextD (DL L)), .bool (nextO (DL L))]) ∧ Ch [] w w' := by
  obtain ⟨a, cap, rfl⟩ := own_form h
  obtain ⟨ln, hln⟩ : ∃ l, l = L.length := ⟨_, rfl⟩
  obtain ⟨X, hX⟩ : ∃ x, x = nextD (DL L) := ⟨_, rfl⟩
  obtain ⟨Bo, hBo⟩ : ∃ x, x = nextO (DL L) := ⟨_, rfl⟩
  rw [← hX, ← hBo]
  have HX := Lib.hid hX
  have HBo := Lib.hid hBo
  have hal := (Ch.refl [] w).alloc (.cells #[.int .u64 now, .slice a L.length cap] 58)
  have HN := Lib.hid (rnext_any now (h.quiet hal) hl)
  have HAl := Lib.hid hal
  have HB := Lib.hid (BoxN.new w [.int .u64 now, .slice a L.length cap] 58)
  have HH := Lib.hid h
  have HR := Lib.hid (And.intro hr hnd)
  obtain ⟨b0, b1⟩ := two_new w (.int .u64 now) (.slice a L.length cap) 58
  rw [← hln] at HN HAl HB HH b0 b1 hl ⊢
  unfold rw7 at *
  have HLn := Lib.hid hln
  clear h hal hr hnd hln hX hBo
  go_enter Tryz.func18, Tryz.ntmps18
  go_wp2_with fail
  with_reducible refine HN.out.mono ?_
  rintro e w2 ⟨R, rfl, hR, hc2⟩
  have hb2 := HB.out.quiet hc2
  obtain ⟨q0, -⟩ := hb2 0 _ rfl
  obtain ⟨q1, -⟩ := hb2 1 _ rfl
  have HC := Lib.hid (HAl.out.trans hc2)
  rcases next_out hR with ⟨h0, rfl⟩ | ⟨j, x, rfl, hj, hx, hbest⟩
  · subst h0
    have HE := Lib.hid (show X = 0 ∧ Bo = false from ⟨by rw [HX.out, DL_nil]; rfl, by rw [HBo.out, DL_nil]; rfl⟩)
    clear hR hc2 hb2
    go_frame
    go_wp2_with fail
    go_ret2
    exact ⟨by rw [HE.out.1, HE.out.2]; rfl, HC.out⟩
  · have hd := best_head HR.out.1 HR.out.2 hbest
    have hE : X = x.sp.due ∧ Bo = true := ⟨by rw [HX.out, hd]; rfl, by rw [HBo.out, hd]; rfl⟩
    obtain ⟨g, cp, e, _, _, _, _, _, _, _, _, c4⟩ := (HH.out.quiet HC.out).cells hx
    rw [← HLn.out] at e
    obtain ⟨rfl, rfl⟩ : a = some ⟨g, 0, none⟩ ∧ cap = cp := by simpa using e
    have c4' : w2.cell? ⟨g, j * 5 + 1 + 3, none⟩ = some (.int .u64 x.sp.due) := c4
    have hj0 : (0 : Int) ≤ (j : Int) := by omega
    have hj1 : (j : Int) < (ln : Int) := by have := HLn.out; omega
    have hjn : decide ((j : Int) < 0) = false := decide_eq_false (by omega)
    obtain ⟨d, hdd⟩ : ∃ d, d = x.sp.due := ⟨_, rfl⟩
    rw [← hdd] at c4 c4' hE
    have HE := Lib.hid hE
    clear hR hc2 hb2 hd e hbest hx hdd hE
    go_frame
    go_wp2_with fail
    go_ret2
    exact ⟨by rw [HE.out.1, HE.out.2]; rfl, HC.out⟩
end Go.Proofs.YtnndofeomakpiaaGreatDoor

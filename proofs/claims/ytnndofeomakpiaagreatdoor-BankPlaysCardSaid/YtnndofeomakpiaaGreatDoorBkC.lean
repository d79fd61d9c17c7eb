/-
  The bank's wheels one by one: holds, isLate, the functions that tell which are such; Now, Catch.
-/
import Derived.Test.YtnndofeomakpiaaGreatDoorMgI
import Derived.Test.YtnndofeomakpiaaGreatDoorBkB
namespace Go.Proofs.YtnndofeomakpiaaGreatDoor
open Go.RowKit Go.Maps

attribute [local go_sem] Oper.semAt_some

/-- Is one of these due at a tick, or was before? -/
def lateB (L : List Tm) (d : Int) : Bool := nextO (DL L) && decide (nextD (DL L) ≤ d)
theorem dl_head {L : List Tm} {t : Tm} {r : List Tm} (e : DL L = t :: r) : t ∈ L ∧ ∀ u ∈ L, t.sp.due ≤ u.sp.due := by
  have h1 := DL_le L
  rw [e, List.pairwise_cons] at h1
  refine ⟨DL_mem.1 (e ▸ List.mem_cons_self), fun u hu => ?_⟩
  have hu2 := DL_mem.2 hu
  rw [e] at hu2
  rcases List.mem_cons.1 hu2 with rfl | hu2
  · exact Int.le_refl _
  · have h2 := h1.1 u hu2
    unfold dueLe at h2
    simp at h2
    omega
theorem next_nil {L : List Tm} : nextO (DL L) = false ↔ L = [] := by
  constructor
  · intro h
    have hl := DL_length L
    cases e : DL L with
    | nil => rw [e] at hl; exact List.eq_nil_of_length_eq_zero hl.symm
    | cons t r => rw [e] at h; cases h
  · rintro rfl
    rw [DL_nil]
    rfl
theorem next_some {L : List Tm} (h : nextO (DL L) = true) : (∃ t ∈ L, t.sp.due = nextD (DL L)) ∧ ∀ u ∈ L, nextD (DL L) ≤ u.sp.due := by
  cases e : DL L with
  | nil => rw [e] at h; cases h
  | cons t r =>
    obtain ⟨h1, h2⟩ := dl_head e
    exact ⟨⟨t, h1, rfl⟩, h2⟩
theorem next_zero {L : List Tm} (h : nextO (DL L) = false) : nextD (DL L) = 0 := by
  cases e : DL L with
  | nil => rfl
  | cons t r => rw [e] at h; cases h
theorem lateB_iff {L : List Tm} {d : Int} : lateB L d = true ↔ ∃ t ∈ L, t.sp.due ≤ d := by
  unfold lateB
  cases h : nextO (DL L) with
  | false => rw [next_nil.1 h]; simp
  | true =>
    obtain ⟨⟨t, ht, e⟩, h2⟩ := next_some h
    simp only [Bool.true_and, decide_eq_true_eq]
    constructor
    · intro h3; exact ⟨t, ht, by omega⟩
    · rintro ⟨u, hu, h3⟩; have := h2 u hu; omega

section
variable {w : World} {base B : Nat} {S : Nat → Prop} {now : Int} {puts : Nat} {L : List Tm}
theorem holds_any (h : WB w base B S now puts L) {k : Int} (hk : wf64 k) :
    Calls Tryz.prog 37 #[.pointer (some ⟨B, 0, none⟩), .int .i64 k] w fun e w' => e = .returned (.bool (lookB L k)) ∧ Ch [] w w' := by
  have HF := Lib.hid (find_any h hk)
  obtain ⟨b, hb⟩ : ∃ b, b = lookB L k := ⟨_, rfl⟩
  rw [← hb] at HF ⊢
  clear h hb
  go_enter Tryz.func37, Tryz.ntmps37
  go_wp2_with fail
  with_reducible refine HF.out.mono ?_
  rintro e w1 ⟨rfl, hc⟩
  unfold spV
  go_wp2_with fail
  go_ret
  exact ⟨rfl, hc.alloc _⟩
theorem isLate_any (h : WB w base B S now puts L) (hT : Mk.Tab w) (d : Int) :
    Calls Tryz.prog 48 #[.pointer (some ⟨B, 0, none⟩), .int .u64 d] w fun e w' => e = .returned (.bool (lateB L d)) ∧ Ch [] w w' := by
  have HF := Lib.hid (wnext_any h hT)
  unfold lateB
  obtain ⟨b, hb⟩ : ∃ b, b = nextO (DL L) := ⟨_, rfl⟩
  obtain ⟨x, hx⟩ : ∃ x, x = nextD (DL L) := ⟨_, rfl⟩
  rw [← hb, ← hx] at HF ⊢
  clear h hT hb hx
  cases b with
  | false =>
    go_enter Tryz.func48, Tryz.ntmps48
    go_wp2_with fail
    with_reducible refine HF.out.mono ?_
    rintro e w1 ⟨rfl, hc⟩
    go_wp2_with fail
    go_ret
    exact ⟨rfl, hc⟩
  | true =>
    go_enter Tryz.func48, Tryz.ntmps48
    go_wp2_with fail
    with_reducible refine HF.out.mono ?_
    rintro e w1 ⟨rfl, hc⟩
    go_wp2_with fail
    go_ret
    exact ⟨rfl, hc⟩
theorem find1_any (h : WB w base B S now puts L) {k : Int} (hk : wf64 k) (i : Int) {b : Nat} (hb : w.cell? ⟨b, 0, none⟩ = some (.int .i64 k)) :
    Calls Tryz.prog 36 #[.int .i64 i, .pointer (some ⟨B, 0, none⟩), .pointer (some ⟨b, 0, none⟩)] w fun e w' => e = .returned (.bool (lookB L k)) ∧ Ch [] w w' := by
  have HF := Lib.hid (holds_any h hk)
  clear h
  go_enter Tryz.func36, Tryz.ntmps36
  go_wp2_with fail
  with_reducible refine HF.out.mono ?_
  rintro e w1 ⟨rfl, hc⟩
  go_wp2_with fail
  go_ret
  exact ⟨rfl, hc⟩
theorem late1_any (h : WB w base B S now puts L) (hT : Mk.Tab w) {d : Int} (i : Int) {b : Nat} (hb : w.cell? ⟨b, 0, none⟩ = some (.int .u64 d)) :
    Calls Tryz.prog 47 #[.int .i64 i, .pointer (some ⟨B, 0, none⟩), .pointer (some ⟨b, 0, none⟩)] w fun e w' => e = .returned (.bool (lateB L d)) ∧ Ch [] w w' := by
  have HF := Lib.hid (isLate_any h hT d)
  clear h hT
  go_enter Tryz.func47, Tryz.ntmps47
  go_wp2_with fail
  with_reducible refine HF.out.mono ?_
  rintro e w1 ⟨rfl, hc⟩
  go_wp2_with fail
  go_ret
  exact ⟨rfl, hc⟩
theorem next1b_any {w : World} (p : Option Addr) (i : Int) {M : Nat} (hM : M < 18446744073709551616) {b : Nat} (hb : w.cell? ⟨b, 0, none⟩ = some (.int .u64 (M : Int))) :
    Calls Tryz.prog 43 #[.int .i64 i, .pointer p, .pointer (some ⟨b, 0, none⟩)] w fun e w' => e = .returned (.bool (Mk.hasb M i)) ∧ Ch [] w w' := by
  have HF := Lib.hid (Mk.has_any M i hM w)
  clear hM
  go_enter Tryz.func43, Tryz.ntmps43
  go_wp2_with fail
  with_reducible refine HF.out.mono ?_
  rintro e w1 ⟨rfl, rfl⟩
  go_wp2_with fail
  go_ret
  exact ⟨rfl, Ch.refl _ _⟩
theorem sum1_any (p : Option Addr) (i : Int) (w : World) :
    Calls Tryz.prog 53 #[.int .i64 i, .pointer p] w fun e w' => e = .returned (.bool true) ∧ Ch [] w w' := by
  go_enter Tryz.func53, Tryz.ntmps53
  go_wp2_with fail
  go_ret
  exact ⟨rfl, Ch.refl _ _⟩
theorem del1_any (h : WB w base B S now puts L) {a : Option Addr} {cap : Nat} {zs : List Int} (hz : Mk.IntsAt w a zs) (hl : zs.length ≤ 9223372036854775807) (hwf : ∀ x ∈ zs, wf64 x) (hn : ∀ b o, a = some ⟨b, o, none⟩ → ¬ S b) {b : Nat} (hb : w.cell? ⟨b, 0, none⟩ = some (.slice a zs.length cap)) :
    Calls Tryz.prog 31 #[.pointer (some ⟨B, 0, none⟩), .pointer (some ⟨b, 0, none⟩)] w fun e w' => e = .returned (.int .i64 ((L.length - (delL L zs).length : Nat) : Int)) ∧ WB w' base B S now puts (delL L zs) ∧ ChP S w w' := by
  have HF := Lib.hid (del_any (cap := cap) h hz hl hwf hn)
  obtain ⟨m, hm⟩ : ∃ m, m = zs.length := ⟨_, rfl⟩
  rw [← hm] at HF hb
  obtain ⟨x, hx⟩ : ∃ x, x = L.length - (delL L zs).length := ⟨_, rfl⟩
  rw [← hx] at HF ⊢
  clear h hz hl hwf hn hm hx
  go_enter Tryz.func31, Tryz.ntmps31
  go_wp2_with fail
  with_reducible refine HF.out.mono ?_
  rintro e w1 ⟨rfl, hw, hc⟩
  go_wp2_with fail
  go_ret
  exact ⟨rfl, hw, hc⟩
end

section
variable {w : World} {base K G cap n : Nat} {f : Nat → Wh}
theorem bnow_in (h : BK w base K G cap n f) {c : Nat} (hc : c < n) :
    Calls Tryz.prog 19 #[.pointer (some ⟨K, 0, none⟩), .int .i64 (c : Int)] w fun e w' => e = .returned (.int .u64 (f c).now) ∧ w' = w := by
  have HA := Lib.hid (at_in h hc)
  have HN := Lib.hid (now_any (h.wh c hc))
  clear h hc
  go_enter Tryz.func19, Tryz.ntmps19
  go_wp2_with fail
  with_reducible refine HA.out.mono ?_
  rintro e w1 ⟨rfl, rfl⟩
  go_wp2_with fail
  with_reducible refine HN.out.mono ?_
  rintro e w1 ⟨rfl, rfl⟩
  go_wp2_with fail
  go_ret
  exact ⟨rfl, rfl⟩
theorem bnow_nil (i : Int) (w : World) :
    Calls Tryz.prog 19 #[.pointer none, .int .i64 i] w fun e w' => e = .returned (.int .u64 0) ∧ w' = w := by
  go_enter Tryz.func19, Tryz.ntmps19
  go_wp2_with fail
  with_reducible refine (at_nil _ _).mono ?_
  rintro e w1 ⟨rfl, rfl⟩
  go_wp2_with fail
  with_reducible refine (nil_now _).mono ?_
  rintro e w1 ⟨rfl, rfl⟩
  go_wp2_with fail
  go_ret
  exact ⟨rfl, rfl⟩
theorem catch_nil (i x : Int) (w : World) :
    Calls Tryz.prog 14 #[.pointer none, .int .i64 i, .int .u64 x] w fun e w' => e = .returned (.slice none 0 0) ∧ Ch [] w w' := by
  go_enter Tryz.func14, Tryz.ntmps14
  go_wp2_with fail
  with_reducible refine (at_nil _ _).mono ?_
  rintro e w1 ⟨rfl, rfl⟩
  go_wp2_with fail
  with_reducible refine (nil_to _ _).mono ?_
  rintro e w1 ⟨rfl, hc⟩
  go_wp2_with fail
  go_ret
  exact ⟨rfl, hc⟩
theorem catch_out (h : BK w base K G cap n f) {i : Int} (hi : i < 0 ∨ (n : Int) ≤ i) (x : Int) :
    Calls Tryz.prog 14 #[.pointer (some ⟨K, 0, none⟩), .int .i64 i, .int .u64 x] w fun e w' => e = .returned (.slice none 0 0) ∧ Ch [] w w' := by
  have HA := Lib.hid (at_out h hi)
  clear h hi
  go_enter Tryz.func14, Tryz.ntmps14
  go_wp2_with fail
  with_reducible refine HA.out.mono ?_
  rintro e w1 ⟨rfl, rfl⟩
  go_wp2_with fail
  with_reducible refine (nil_to _ _).mono ?_
  rintro e w1 ⟨rfl, hc⟩
  go_wp2_with fail
  go_ret
  exact ⟨rfl, hc⟩
/-- The wheels, one of them caught up. -/
def catchW (f : Nat → Wh) (c : Nat) (x : Int) : Nat → Wh := updW f c { f c with now := max (f c).now x, L := later (f c).L x }
theorem catch_in (h : BK w base K G cap n f) (hT : Mk.Tab w) {c : Nat} (hc : c < n) {x : Int} (hx : Wd x) :
    Calls Tryz.prog 14 #[.pointer (some ⟨K, 0, none⟩), .int .i64 (c : Int), .int .u64 x] w fun e w' => ∃ v, e = .returned v ∧ w'.ownsRow w.heap.size 3 1 v (outs (f c).L x).length ((outs (f c).L x).map iv) ∧
      BK w' base K G cap n (catchW f c x) ∧ ChP (f c).S w w' := by
  have hw := h.wh c hc
  have HT : Hid (Calls Tryz.prog 34 #[.pointer (some ⟨(f c).B, 0, none⟩), .int .u64 x] w fun e w' =>
      ∃ v, e = .returned v ∧ w'.ownsRow w.heap.size 3 1 v (outs (f c).L x).length ((outs (f c).L x).map iv) ∧ BK w' base K G cap n (catchW f c x) ∧ ChP (f c).S w w') := by
    refine Lib.hid ?_
    rcases Int.lt_or_le (f c).now x with hlt | hle
    · refine (to_any hw hT hx hlt).mono fun _ _ ⟨v, he, hr, hw', hch⟩ => ⟨v, he, hr, ?_, hch⟩
      refine h.upd hc ?_ rfl hch (fun k hk => .inl hk) (fun t ht => .inl ⟨t, (later_mem.1 ht).1, rfl⟩)
      rw [show max (f c).now x = x by omega]
      exact hw'
    · refine (to_less hw hle).mono fun _ _ ⟨he, hch⟩ => ⟨_, he, ?_, ?_, .quiet hch⟩
      · rw [outs_nil (fun t ht => by have := (hw.wi.fits t ht).ahead; omega)]
        exact World.ownsRow_nil _ _ _ _
      · unfold catchW
        rw [later_all (fun t ht => by have := (hw.wi.fits t ht).ahead; omega), show max (f c).now x = (f c).now by omega]
        rw [show updW f c { f c with now := (f c).now, L := (f c).L } = f from updW_self f c]
        exact h.quiet hch
  have HA := Lib.hid (at_in h hc)
  clear h hT hc hx hw
  go_enter Tryz.func14, Tryz.ntmps14
  go_wp2_with fail
  with_reducible refine HA.out.mono ?_
  rintro e w1 ⟨rfl, rfl⟩
  go_wp2_with fail
  with_reducible refine HT.out.mono ?_
  rintro e w1 ⟨v, rfl, hr, hb, hch⟩
  obtain ⟨a, cp, rfl⟩ := own_form hr
  have HR := Lib.hid hr
  have HB := Lib.hid hb
  have HCh := Lib.hid hch
  clear hr hb hch
  go_wp2_with fail
  go_ret
  exact ⟨_, rfl, HR.out, HB.out, HCh.out⟩
end
end Go.Proofs.YtnndofeomakpiaaGreatDoor

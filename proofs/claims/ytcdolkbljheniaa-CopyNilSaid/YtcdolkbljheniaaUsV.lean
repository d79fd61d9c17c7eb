/-
  The answer's Peek, Same, Poke, Turn.
-/
import Derived.Test.YtcdolkbljheniaaUsR
namespace Go.Proofs.Ytcdolkbljheniaa
open Go.RowKit

theorem NB.nil (w : World) (lo : Nat) : NB w lo (.slice none 0 0) [] := World.ownsRow_nil _ _ _ _
theorem NB.snoc_of {w : World} {lo : Nat} {v : Value} {l : List Int} {z : Int} (h : w.ownsRow lo 5 1 v (l.length + 1) (u8s l ++ [.int .u8 z])) : NB w lo v (l ++ [z]) := by
  unfold NB
  simpa [u8s] using h
set_option maxHeartbeats 1000000 in
theorem rpeek_any {w : World} {g N cap : Nat} {f h : Nat → Int} (r : RM w g N f h) (hN : N ≤ 256) (a m : Int) {l : List Int} (hl : l = if wIn N a m then peekL f a.toNat m.toNat else []) :
    Calls Try.prog 21 #[.slice (some ⟨g, 0, none⟩) N cap, .int .i64 a, .int .i64 m] w fun e w' => ∃ v, e = .returned (.tuple #[v, .int .i64 (pieceE N a m)]) ∧ NB w' w.heap.size v l ∧ Ch [] w w' := by
  obtain ⟨i0, hI, hz0, hz1, hz2⟩ : ∃ i : TypeInfo, Try.prog.info? 5 = some i ∧ i.zero = some (.int .u8 0) ∧ i.size = 1 ∧ i.bytes = 1 := by
    refine ⟨_, rfl, by kernel_rfl, by kernel_rfl, by kernel_rfl⟩
  by_cases hin : wIn N a m
  · rw [if_pos hin] at hl
    obtain ⟨k, rfl⟩ : ∃ k : Nat, a = (k : Int) := ⟨a.toNat, by omega⟩
    obtain ⟨n, rfl⟩ : ∃ k : Nat, m = (k : Int) := ⟨m.toNat, by omega⟩
    rw [Int.toNat_natCast, Int.toNat_natCast] at hl
    have hkn : k + n ≤ N := by omega
    have HW := Lib.hid (within_any (some ⟨g, 0, none⟩) cap N (by omega) k n w (decide_eq_true hin))
    have hE : pieceE N (k : Int) n = 0 := by unfold pieceE; rw [if_pos hin]
    rw [hE]
    have HR := Lib.hid r
    have HL := Lib.hid hl
    have hglt := r.lt
    clear r hin hl hE
    go_enter Try.func21, Try.ntmps21
    go_wp2_with (with_reducible refine HW.out.mono ?_; rintro e w' ⟨rfl, rfl⟩)
    go_loopw [8, 9] (fun v i wr => Ch [] w wr ∧ ∃ j : Nat, i = .int .i64 (j : Int) ∧ j ≤ n ∧ NB wr w.heap.size v (peekL f k j)) (fun _ i _ => n - (intOf i).toNat)
    case atStart => exact ⟨Ch.refl _ _, 0, rfl, Nat.zero_le _, NB.nil _ _⟩
    case round =>
      obtain ⟨hcw, j, rfl, hj1, hnb⟩ := hrel
      have HC := Lib.hid hcw
      by_cases hlt : j < n
      · obtain ⟨t, ht⟩ : ∃ t, t = k + j := ⟨_, rfl⟩
        have hadd : IntKind.i64.wrap ((k : Int) + (j : Int)) = (t : Int) := by rw [IntWalk.i64_in _ (by omega)]; omega
        have htN : t < N := by omega
        have htN' : (t : Int) < (N : Int) := by omega
        have hR := HR.out.ch hcw (by simp)
        have c := hR.y t htN
        have HNB := Lib.hid hnb
        have HTT := Lib.hid ht
        have hsz := hcw.size
        clear ht hR hnb hcw
        have hl1 : (peekL f k j).length = j := peekL_len _ _ _
        have HL1 := Lib.hid hl1
        clear hl1
        go_wp2_with (at_builtin; go_must (refine wpList_append_own _ rfl _ _ 23 rfl w.heap.size 5 i0 (.int .u8 0) 1 1 Try.underlying23 hI hz0 hz1 hz2 rfl (by decide) _ _ _ rfl (World.ownsRow.alloc HNB.out _) ⟨wr.heap.size, 0, none⟩ 1 1 [.int .u8 (f t)] rfl rfl ?c1 (by simp [Value.oneCell']) ?c2 ?c3 ?c4 ?_))
        case c1 => exact (One.new wr (.int .u8 (f t)) 5).news
        case c2 => rw [HL1.out]; unfold maxLen; omega
        case c3 => rw [HL1.out]; omega
        case c4 => simp; omega
        intro v2 w2 hown2 hgrow2 _
        have HN2 := Lib.hid (show NB w2 w.heap.size v2 (peekL f k (j + 1)) from by rw [peekL_succ, ← HTT.out]; exact NB.snoc_of hown2)
        have HC2 := Lib.hid ((HC.out.alloc (.cells #[.int .u8 (f t)] 5)).kept hgrow2 (fun r e => (World.ownsRow.lt HNB.out r e).1))
        clear hown2 hgrow2
        go_wp2_with fail
        go_roundw
        case rel => exact ⟨HC2.out, j + 1, by go_num, by omega, HN2.out⟩
        case measure => simp [intOf]; omega
      · obtain rfl : j = n := by omega
        have HNB := Lib.hid (show NB wr w.heap.size u8 l from by rw [HL.out]; exact hnb)
        clear hnb hcw
        go_wp2
        go_ret2
        exact ⟨_, rfl, HNB.out, HC.out⟩
  · rw [if_neg hin] at hl
    subst hl
    have HW := Lib.hid (within_any (some ⟨g, 0, none⟩) cap N (by omega) a m w (decide_eq_false hin))
    have hE : pieceE N a m = 2 := by unfold pieceE; rw [if_neg hin]
    rw [hE]
    clear r hin hE
    go_enter Try.func21, Try.ntmps21
    go_wp2_with (with_reducible refine HW.out.mono ?_; rintro e w' ⟨rfl, rfl⟩)
    go_ret2
    exact ⟨_, rfl, NB.nil _ _, Ch.refl _ _⟩

/-- Same bytes are the same. -/
theorem same_any {w : World} {a1 a2 : Option Addr} {l : List Int} {n : Nat} (c1 c2 : Nat) (hn : l.length = n) (hn2 : n ≤ 100000) (h1 : BytesAt w a1 l) (h2 : BytesAt w a2 l) :
    Calls Try.prog 19 #[.slice a1 n c1, .slice a2 n c2] w fun e w' => e = .returned (.bool true) ∧ Ch [] w w' := by
  have H1 := Lib.hid h1
  have H2 := Lib.hid h2
  have HN := Lib.hid hn
  clear h1 h2 hn
  go_enter Try.func19, Try.ntmps19
  go_wp2_with fail
  go_loopw [5] (fun i wr => Ch [] w wr ∧ ∃ j : Nat, i = .int .i64 (j : Int) ∧ j ≤ n) (fun i _ => n - (intOf i).toNat)
  case atStart => exact ⟨Ch.refl _ _, 0, rfl, Nat.zero_le _⟩
  case round =>
    obtain ⟨hcw, j, rfl, hj1⟩ := hrel
    by_cases hlt : j < n
    · have hjl : j < l.length := by rw [HN.out]; exact hlt
      have hlt' : (j : Int) < (n : Int) := by omega
      have k1 := H1.out.ch hcw (by simp)
      have k2 := H2.out.ch hcw (by simp)
      have HC := Lib.hid hcw
      rcases k1 with rfl | ⟨b1, o1, rfl, k1⟩
      · simp at hjl
      · rcases k2 with rfl | ⟨b2, o2, rfl, k2⟩
        · simp at hjl
        · have d1 := k1 j hjl
          have d2 := k2 j hjl
          generalize l[j] = z at d1 d2
          clear k1 k2 hcw
          go_wp2_with fail
          go_region
          go_wp2_with fail
          go_roundw
          case rel => exact ⟨HC.out.drew, j + 1, by go_num, by omega⟩
          case measure => simp [intOf]; omega
    · obtain rfl : j = n := by omega
      have HC := Lib.hid hcw
      clear hcw
      go_wp2
      go_ret
      exact ⟨rfl, HC.out⟩

set_option maxHeartbeats 2000000 in
theorem rpoke_any {w : World} {g N cap : Nat} {f h : Nat → Int} (r : RM w g N f h) (hN : N ≤ 256) (hN0 : 0 < N) (a : Int) (v : Option Addr) (cap2 : Nat) {l : List Int} {n : Nat} (hn : l.length = n) (hn2 : n ≤ 1000) (hl : BytesAt w v l) :
    Calls Try.prog 27 #[.slice (some ⟨g, 0, none⟩) N cap, .int .i64 a, .slice v n cap2] w fun e w' => ∃ g' cp, e = .returned (.tuple #[.slice (some ⟨g', 0, none⟩) N cp, .int .i64 (pieceE N a n)]) ∧ RM w' g' N (if wIn N a n then pokeF f a.toNat l else f) h ∧ Ch [] w w' ∧ (g' = g ∨ w.heap.size ≤ g') := by
  obtain ⟨i0, hI, hz0, hz1, hz2⟩ : ∃ i : TypeInfo, Try.prog.info? 85 = some i ∧ i.zero = some (.agg #[.int .u8 0, .int .i64 0]) ∧ i.size = 2 ∧ i.bytes = 16 := by
    refine ⟨_, rfl, by kernel_rfl, by kernel_rfl, by kernel_rfl⟩
  by_cases hin : wIn N a n
  · obtain ⟨k, rfl⟩ : ∃ k : Nat, a = (k : Int) := ⟨a.toNat, by omega⟩
    have hkn : k + n ≤ N := by omega
    have HW := Lib.hid (within_any (some ⟨g, 0, none⟩) cap N (by omega) k n w (decide_eq_true hin))
    have hE : pieceE N (k : Int) n = 0 := by unfold pieceE; rw [if_pos hin]
    rw [hE, if_pos hin, Int.toNat_natCast]
    have HR := Lib.hid r
    have HL := Lib.hid hl
    have HN := Lib.hid hn
    have hglt := r.lt
    clear r hin hl hE hn
    go_enter Try.func27, Try.ntmps27
    go_wp2_with (first | (with_reducible refine HW.out.mono ?_; rintro e w' ⟨rfl, rfl⟩) | (at_builtin; go_must (refine wpList_append_own _ rfl _ _ 30 rfl w.heap.size 85 i0 (.agg #[.int .u8 0, .int .i64 0]) 2 16 Try.underlying30 hI hz0 hz1 hz2 rfl (by decide) (.slice (some ⟨w.heap.size, 0, none⟩) 0 0) 0 [] rfl ?c0 ⟨g, 0, none⟩ N cap (rowL N f h) rfl (rowL_len N f h) ?c2 (rowL_one N f h) ?c3 ?c4 ?c5 ?_)))
    case c0 => exact World.ownsRow_lit w #[] 0 (Nat.le_refl _) (Nat.zero_le _) rfl
    case c2 => exact (HR.out.ch ((Ch.refl [] w).alloc _) (by simp)).cells
    case c3 => unfold maxLen; omega
    case c4 => omega
    case c5 => simp
    intro v1 w1 hown1 hgrow1 _
    have hc1 : Ch [] w w1 := ((Ch.refl [] w).alloc (.cells #[] 85)).kept hgrow1 (fun r e => by simp [Value.ownBlock] at e; omega)
    obtain ⟨p1, cp1, rfl⟩ := own_form hown1
    have hown2 : w1.ownsRow w.heap.size 85 2 (.slice p1 N cp1) N (rowL N f h) := by simpa using hown1
    obtain ⟨g1, rfl, hlo, hR1⟩ := RM.of_own hN0 hown2
    have HR1 := Lib.hid (show RM w1 g1 N (pokeF f k (l.take 0)) h from by rw [List.take_zero, pokeF_nil]; exact hR1)
    have HC1 := Lib.hid hc1
    clear hown1 hown2 hgrow1 hc1 hR1
    go_wp2_with fail
    go_loopw [9] (fun i wr => Ch [] w wr ∧ ∃ j : Nat, i = .int .i64 (j : Int) ∧ j ≤ n ∧ RM wr g1 N (pokeF f k (l.take j)) h) (fun i _ => n - (intOf i).toNat)
    case atStart => exact ⟨HC1.out, 0, rfl, Nat.zero_le _, HR1.out⟩
    case round =>
      obtain ⟨hcw, j, rfl, hj1, hrm⟩ := hrel
      have HC := Lib.hid hcw
      have HM := Lib.hid hrm
      by_cases hlt : j < n
      · have hjl : j < l.length := by rw [HN.out]; exact hlt
        have hlt' : (j : Int) < (n : Int) := by omega
        have k1 := HL.out.ch hcw (by simp)
        rcases k1 with rfl | ⟨b1, o1, rfl, k1⟩
        · simp at hjl
        · have d1 := k1 j hjl
          obtain ⟨z, hz⟩ : ∃ z, z = l[j] := ⟨_, rfl⟩
          rw [← hz] at d1
          obtain ⟨t, ht⟩ : ∃ t, t = k + j := ⟨_, rfl⟩
          have hadd : IntKind.i64.wrap ((k : Int) + (j : Int)) = (t : Int) := by rw [IntWalk.i64_in _ (by omega)]; omega
          have htN : t < N := by omega
          have htN' : (t : Int) < (N : Int) := by omega
          have d2 := hrm.y t htN
          have d3 := hrm.fr (t * 2)
          have HX := Lib.hid (show RM (wr.setCell ⟨g1, t * 2, none⟩ (.int .u8 z)) g1 N (pokeF f k (l.take (j + 1))) h from by
            have := hrm.setY htN z
            rwa [ht, hz, pokeF_step f k l hjl, ← ht, ← hz] at this)
          have HX2 := Lib.hid (chSetNew HC.out (p := ⟨g1, t * 2, none⟩) hlo (.int .u8 z))
          clear k1 hcw hrm hz ht hjl
          go_wp2_with fail
          go_roundw
          case rel => exact ⟨HX2.out, j + 1, by go_num, by omega, HX.out⟩
          case measure => simp [intOf]; omega
      · obtain rfl : j = n := by omega
        have HX := Lib.hid (show RM wr g1 N (pokeF f k l) h from by have := HM.out; rwa [← HN.out, List.take_length] at this)
        clear hcw hrm
        go_wp2
        go_ret2
        exact ⟨g1, cp1, rfl, HX.out, HC.out, .inr hlo⟩
  · have HW := Lib.hid (within_any (some ⟨g, 0, none⟩) cap N (by omega) a n w (decide_eq_false hin))
    have hE : pieceE N a n = 2 := by unfold pieceE; rw [if_neg hin]
    rw [hE, if_neg hin]
    have HR := Lib.hid r
    clear r hin hl hE
    go_enter Try.func27, Try.ntmps27
    go_wp2_with (with_reducible refine HW.out.mono ?_; rintro e w' ⟨rfl, rfl⟩)
    go_ret2
    exact ⟨g, cap, rfl, HR.out, Ch.refl _ _, .inl rfl⟩
end Go.Proofs.Ytcdolkbljheniaa

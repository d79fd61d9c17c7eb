/-
  The law ArenaWears, walked.
-/
import Derived.Test.YtdompamilgbnnaaAIK
namespace Go.Proofs.Ytdompamilgbnnaa
open Go.RowKit aI

attribute [local go_sem] Oper.semAt_some

theorem one_first {s : Sl Int} (h : isFree s = true) : firstOf [s] isFree = some 0 := firstOf_at (by simp) (fun j hj => by omega) h
theorem one_none {s : Sl Int} (h : isFree s = false) : firstOf [s] isFree = none := firstOf_out (fun j hj => by
  have e : j = 0 := by simpa using hj
  subst e
  exact h)
theorem one_sel (s : Sl Int) (q : Sl Int → Bool) (h : q s = false) : (sel [s] q).length = 0 := by
  have : sel [s] q = [] := firstOf_none (p := q) (firstOf_out (fun j hj => by
    have e : j = 0 := by simpa using hj
    subst e
    exact h))
  rw [this]; rfl

theorem wput {S : Nat} {w W : World} {R k : Nat} (h : St S w W R [⟨k, false, 0⟩]) (hk : k ≤ 255) (x : Int) :
    Calls Try.prog 13 #[.pointer (some ⟨R, 0, none⟩), .int .i64 x] W fun e W' =>
      e = .returned (.tuple #[.agg #[.int .i64 0, .int .i64 (k : Int)], .int .i64 0]) ∧ St S w W' R [⟨k, true, x⟩] ∧ Ch [S] W W' := by
  have hf := one_first (s := ⟨k, false, 0⟩) (by simp [isFree]; omega)
  have h1 := put_st h x
  obtain ⟨e1, e2, e3⟩ := putA_some hf
  rw [e1, e2, e3, putL_some hf] at h1
  exact h1
theorem wput0 {S : Nat} {w W : World} {R k : Nat} (h : St S w W R [⟨k, false, 0⟩]) (hk : k = 256) (x : Int) :
    Calls Try.prog 13 #[.pointer (some ⟨R, 0, none⟩), .int .i64 x] W fun e W' =>
      e = .returned (.tuple #[.agg #[.int .i64 0, .int .i64 0], .int .i64 3]) ∧ St S w W' R [⟨k, false, 0⟩] ∧ Ch [S] W W' := by
  have hf := one_none (s := ⟨k, false, 0⟩) (by simp [isFree]; omega)
  have h1 := put_st h x
  obtain ⟨e1, e2, e3⟩ := putA_none hf
  rw [e1, e2, e3, putL_none hf] at h1
  exact h1
theorem wroom {S : Nat} {w W : World} {R : Nat} {s : Sl Int} (h : St S w W R [s]) (hs : isFree s = false) :
    Calls Try.prog 21 #[.pointer (some ⟨R, 0, none⟩)] W fun e W' => e = .returned (.int .i64 0) ∧ St S w W' R [s] ∧ Ch [] W W' := by
  have h1 := room_st h
  rw [one_sel s isFree hs] at h1
  exact h1
theorem wlen {S : Nat} {w W : World} {R : Nat} {s : Sl Int} (h : St S w W R [s]) (hs : isHeld s = false) :
    Calls Try.prog 20 #[.pointer (some ⟨R, 0, none⟩)] W fun e W' => e = .returned (.int .i64 0) ∧ St S w W' R [s] ∧ Ch [] W W' := by
  have h1 := len_st h
  rw [one_sel s isHeld hs] at h1
  exact h1
theorem wfree {S : Nat} {w W : World} {R k : Nat} {x : Int} (h : St S w W R [⟨k, true, x⟩]) (B cap : Nat) (hb : Box2 W B (.int .i64 0) (.int .i64 (k : Int))) (hne : S < B) :
    Calls Try.prog 17 #[.pointer (some ⟨R, 0, none⟩), .slice (some ⟨B, 0, none⟩) 1 cap] W fun e W' => e = .returned (.int .i64 0) ∧ St S w W' R [⟨k + 1, false, 0⟩] ∧ Ch [S] W W' := by
  have h1 := free_st h 0 (k : Int) B cap hb hne
  have e : findE [(⟨k, true, x⟩ : Sl Int)] 0 (k : Int) = 0 := findE_ok (k := 0) (by simp) rfl rfl
  have e2 : freeL [(⟨k, true, x⟩ : Sl Int)] 0 (k : Int) = [⟨k + 1, false, 0⟩] := by unfold freeL; rw [if_pos e]; rfl
  rw [e, e2] at h1
  exact h1
theorem wstale {S : Nat} {w W : World} {R k : Nat} (h : St S w W R [⟨k + 1, false, 0⟩]) (B cap : Nat) (hb : Box2 W B (.int .i64 0) (.int .i64 (k : Int))) (hne : S < B) :
    Calls Try.prog 17 #[.pointer (some ⟨R, 0, none⟩), .slice (some ⟨B, 0, none⟩) 1 cap] W fun e W' => e = .returned (.int .i64 7) ∧ St S w W' R [⟨k + 1, false, 0⟩] ∧ Ch [S] W W' := by
  have h1 := free_st h 0 (k : Int) B cap hb hne
  have e : findE [(⟨k + 1, false, 0⟩ : Sl Int)] 0 (k : Int) = 7 := findE_stale (k := 0) (by simp) (fun h => by cases h.1)
  have e2 : freeL [(⟨k + 1, false, 0⟩ : Sl Int)] 0 (k : Int) = [⟨k + 1, false, 0⟩] := by unfold freeL; rw [e]; rfl
  rw [e, e2] at h1
  exact h1

set_option maxHeartbeats 2000000 in
theorem wears_law (x : Int) (w : World) :
    Calls Try.prog 4 #[.int .i64 x] w fun e w' => e = .returned (.bool true) ∧ Below w.heap.size w w' := by
  obtain ⟨S, hS⟩ : ∃ S, S = w.heap.size := ⟨_, rfl⟩
  have HN := Lib.hid (new_st 1 w S hS.symm (by decide) (by decide))
  rw [← hS]
  clear hS
  go_enter Try.func4, Try.ntmps4
  go_wp2_with fail
  refine HN.out.mono ?_
  rintro e w1 ⟨R, rfl, h1⟩
  have H1 := Lib.hid h1
  clear h1
  go_wp2_with fail
  go_loopw [5] (fun v wr => ∃ k : Nat, 1 ≤ k ∧ k ≤ 256 ∧ v = .int .i64 (k : Int) ∧ St S w wr R [⟨k, false, 0⟩]) (fun v _ => 256 - (intOf v).toNat)
  case atStart => exact ⟨1, by decide, by decide, rfl, H1.out⟩
  case round =>
    obtain ⟨k, hk1, hk, rfl, hst⟩ := hrel
    by_cases hlt : k ≤ 255
    · go_wp2_with fail
      with_reducible refine (wput hst hlt x).mono ?_
      rintro e w2 ⟨rfl, h2, _⟩
      have HSX := Lib.hid (show S < w2.heap.size by have := h2.r; have := h2.z; omega)
      have HX := Lib.hid (Box2.new w2 (.int .i64 0) (.int .i64 (k : Int)) 33)
      have H2 := Lib.hid (h2.alloc (.cells #[.int .i64 0, .int .i64 (k : Int)] 33))
      obtain ⟨X, hX⟩ : ∃ X, X = w2.heap.size := ⟨_, rfl⟩
      have HXe := Lib.hid hX
      rw [← hX] at HX HSX
      have x0 := HX.out.c0
      have x1 := HX.out.c1
      clear h2 hst hX
      go_wp2_with fail
      rw [← HXe.out]
      generalize w2.alloc (.cells #[.int .i64 0, .int .i64 (k : Int)] 33) = w3 at *
      with_reducible refine (wroom H2.out (by simp [isFree])).mono ?_
      rintro e w4 ⟨rfl, h4, hc4⟩
      have HX4 := Lib.hid ((HX.out.ch hc4 (by simp)).alloc (.cells #[.int .i64 0, .int .i64 (k : Int)] 33))
      have H4 := Lib.hid (h4.alloc (.cells #[.int .i64 0, .int .i64 (k : Int)] 33))
      have HF4 := Lib.hid (Box2.new w4 (.int .i64 0) (.int .i64 (k : Int)) 33)
      have HS4 := Lib.hid (show S < w4.heap.size by have := h4.r; have := h4.z; omega)
      have hx4 := HX.out.ch hc4 (by simp)
      have x0 := hx4.c0
      have x1 := hx4.c1
      clear h4 hc4 HX H2 hx4
      go_wp2_with fail
      with_reducible refine (wfree H4.out _ _ HF4.out HS4.out).mono ?_
      rintro e w5 ⟨rfl, h5, hc5⟩
      have hx5 := HX4.out.ch hc5 (by have := HSX.out; simp; omega)
      have H5 := Lib.hid (h5.alloc (.cells #[.int .i64 0, .int .i64 (k : Int)] 33))
      have HF5 := Lib.hid (Box2.new w5 (.int .i64 0) (.int .i64 (k : Int)) 33)
      have HS5 := Lib.hid (show S < w5.heap.size by have := h5.r; have := h5.z; omega)
      have x0 := hx5.c0
      have x1 := hx5.c1
      clear h5 hc5 HX4 H4 HF4 HS4 hx5
      go_wp2_with fail
      with_reducible refine (wstale H5.out _ _ HF5.out HS5.out).mono ?_
      rintro e w6 ⟨rfl, h6, _⟩
      have H6 := Lib.hid h6
      clear h6 H5 HF5 HS5 x0 x1
      go_wp2_with fail
      go_roundw
      case rel => exact ⟨k + 1, by omega, by omega, by go_num, H6.out⟩
      case measure => simp [intOf]; omega
    · have e256 : k = 256 := by omega
      go_wp2_with fail
      with_reducible refine (wput0 hst e256 x).mono ?_
      rintro e w2 ⟨rfl, h2, _⟩
      have H2 := Lib.hid (h2.alloc (.cells #[.int .i64 0, .int .i64 0] 33))
      clear h2 hst
      go_wp2_with fail
      with_reducible refine (known_any _).mono ?_
      rintro e w3 ⟨rfl, hb3⟩
      have h3 := H2.out.below hb3
      clear hb3 H2
      go_wp2_with fail
      with_reducible refine (wlen h3 rfl).mono ?_
      rintro e w4 ⟨rfl, h4, _⟩
      clear h3
      go_wp2_with fail
      with_reducible refine (wroom h4 (by simp [isFree]; omega)).mono ?_
      rintro e w5 ⟨rfl, h5, _⟩
      clear h4
      have HB := Lib.hid h5.b
      clear h5
      go_wp2
      go_ret
      exact ⟨rfl, HB.out⟩
end Go.Proofs.Ytdompamilgbnnaa

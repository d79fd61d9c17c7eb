/-
  A clock: At, Now, Stopped, Step, Due.
-/
import Derived.Test.YtpojhkcohadcpaaClB
namespace Go.Proofs.Ytpojhkcohadcpaa
open Go.RowKit

attribute [local go_sem] Oper.semAt_some

/-- Words that came in, or that were handed on. -/
structure WordsAt (w : World) (a : Option Addr) (len : Nat) (z : Nat → Int) : Prop where
  wd : ∀ i, Wd (z i)
  at' : len = 0 ∨ ∃ b off, a = some ⟨b, off, none⟩ ∧ ∀ i, i < len → w.cell? ⟨b, off + i, none⟩ = some (.int .u64 (z i))
theorem WordsAt.ch {S : List Nat} {w w' : World} {a : Option Addr} {len : Nat} {z : Nat → Int} (h : WordsAt w a len z) (hc : Ch S w w') (hn : len = 0 ∨ ∀ x, a = some x → x.block ∉ S) : WordsAt w' a len z := by
  refine ⟨h.wd, ?_⟩
  rcases h.at' with h0 | ⟨b, off, rfl, h1⟩
  · exact .inl h0
  · rcases hn with h0 | hn
    · exact .inl h0
    · exact .inr ⟨b, off, rfl, fun i hi => (hc.cell (p := ⟨b, off + i, none⟩) (cell_lt (h1 i hi)) (hn ⟨b, off, Option.none⟩ rfl)).trans (h1 i hi)⟩
theorem WordsAt.take {w : World} {a : Option Addr} {len : Nat} {z : Nat → Int} (h : WordsAt w a len z) (k : Nat) (hk : k ≤ len) : WordsAt w a k z := by
  refine ⟨h.wd, ?_⟩
  rcases h.at' with h0 | ⟨b, off, rfl, h1⟩
  · exact .inl (by omega)
  · exact .inr ⟨b, off, rfl, fun i hi => h1 i (by omega)⟩
theorem words_none (w : World) : WordsAt w none 0 (fun _ => 0) := ⟨fun _ => ⟨by decide, by decide⟩, .inl rfl⟩
theorem WordsAt.one {w : World} {g : Nat} {x : Int} (hx : Wd x) (hc : w.cell? ⟨g, 0, none⟩ = some (.int .u64 x)) : WordsAt w (some ⟨g, 0, none⟩) 1 (fun _ => x) :=
  ⟨fun _ => hx, .inr ⟨g, 0, rfl, fun i hi => by cases (show i = 0 by omega); exact hc⟩⟩
theorem WordsAt.lt {w : World} {a : Option Addr} {len : Nat} {z : Nat → Int} (h : WordsAt w a len z) : len = 0 ∨ ∀ x, a = some x → x.block < w.heap.size := by
  rcases h.at' with h0 | ⟨b, off, rfl, h1⟩
  · exact .inl h0
  · by_cases h0 : len = 0
    · exact .inl h0
    · exact .inr fun x hx => by cases hx; exact cell_lt (h1 0 (by omega))

/-- What a clock shows behind k of these; how many of k are due. -/
def stepTo (z : Nat → Int) (n : Int) : Nat → Int
  | 0 => n
  | k + 1 => addV (stepTo z n k) (z k)
def dueTo (z : Nat → Int) (n : Int) : Nat → Nat
  | 0 => 0
  | k + 1 => dueTo z n k + if z k ≤ n then 1 else 0
theorem stepTo_wd {z : Nat → Int} {n : Int} (hn : Wd n) (hz : ∀ i, Wd (z i)) (k : Nat) : Wd (stepTo z n k) := by
  induction k with
  | zero => exact hn
  | succ k ih => exact addV_wd ih (hz k)
theorem dueTo_le (z : Nat → Int) (n : Int) (k : Nat) : dueTo z n k ≤ k := by
  induction k with
  | zero => exact Nat.le_refl _
  | succ k ih => unfold dueTo; split <;> omega
theorem dueTo_mono (z : Nat → Int) {n m : Int} (h : n ≤ m) (k : Nat) : dueTo z n k ≤ dueTo z m k := by
  induction k with
  | zero => exact Nat.le_refl _
  | succ k ih => unfold dueTo; split <;> split <;> omega

/-- A clock in block b. -/
structure Clk (w : World) (b : Nat) (n : Int) : Prop where
  c : w.cell? ⟨b, 0, none⟩ = some (.int .u64 n)
  f : w.frozen? ⟨b, 0, none⟩ = false
  wd : Wd n
theorem Clk.lt {w : World} {b : Nat} {n : Int} (h : Clk w b n) : b < w.heap.size := cell_lt h.c
theorem Clk.ch {S : List Nat} {w w' : World} {b : Nat} {n : Int} (h : Clk w b n) (hc : Ch S w w') (hb : b ∉ S) : Clk w' b n :=
  ⟨(hc.cell (p := ⟨b, 0, none⟩) h.lt hb).trans h.c, (hc.frozen (p := ⟨b, 0, none⟩) h.lt hb).trans h.f, h.wd⟩
theorem Clk.set {w : World} {b : Nat} {n m : Int} (h : Clk w b n) (hm : Wd m) : Clk (w.setCell ⟨b, 0, none⟩ (.int .u64 m)) b m := ⟨setCell_same h.c, by simpa using h.f, hm⟩
theorem Clk.new (w : World) {n : Int} (t : TypeId) (hn : Wd n) : Clk (w.alloc (.cells #[.int .u64 n] t)) w.heap.size n := ⟨(cell_new w _ t).1, (cell_new w _ t).2, hn⟩

theorem at_any {n : Int} (hn : Wd n) (w : World) (S : Nat) (hS : w.heap.size = S) :
    Calls Try.prog 17 #[.int .u64 n] w fun e w' => e = .returned (.pointer (some ⟨S, 0, none⟩)) ∧ Clk w' S n ∧ Ch [] w w' ∧ w'.heap.size = S + 1 := by
  have HC := Lib.hid (Clk.new w 45 hn)
  have HB := Lib.hid ((Ch.refl [] w).alloc (.cells #[.int .u64 n] 45))
  have HZ := Lib.hid (show (w.alloc (.cells #[.int .u64 n] 45)).heap.size = S + 1 by simp [hS])
  rw [hS] at HC
  have HS := Lib.hid hS
  clear hS hn
  go_enter Try.func17, Try.ntmps17
  go_wp2
  go_ret
  rw [HS.out]
  exact ⟨rfl, HC.out, HB.out, HZ.out⟩

theorem now_any {w : World} {b : Nat} {n : Int} (h : Clk w b n) :
    Calls Try.prog 18 #[.pointer (some ⟨b, 0, none⟩)] w fun e w' => e = .returned (.int .u64 n) ∧ w' = w := by
  have c := h.c
  clear h
  go_enter Try.func18, Try.ntmps18
  go_wp2
  go_ret
  exact ⟨rfl, rfl⟩
theorem now_nil (w : World) : Calls Try.prog 18 #[.pointer none] w fun e w' => e = .returned (.int .u64 0) ∧ w' = w := by
  go_enter Try.func18, Try.ntmps18
  go_wp2
  go_ret
  exact ⟨rfl, rfl⟩
theorem stopped_any {w : World} {b : Nat} {n : Int} (h : Clk w b n) :
    Calls Try.prog 19 #[.pointer (some ⟨b, 0, none⟩)] w fun e w' => e = .returned (.bool (n == 18446744073709551615)) ∧ w' = w := by
  have HN := Lib.hid (now_any h)
  clear h
  go_enter Try.func19, Try.ntmps19
  go_wp2_with fail
  with_reducible refine HN.out.mono ?_
  rintro e w1 ⟨rfl, rfl⟩
  go_wp2
  go_ret
  exact ⟨rfl, rfl⟩
theorem stopped_nil (w : World) : Calls Try.prog 19 #[.pointer none] w fun e w' => e = .returned (.bool false) ∧ w' = w := by
  go_enter Try.func19, Try.ntmps19
  go_wp2_with fail
  with_reducible refine (now_nil w).mono ?_
  rintro e w1 ⟨rfl, rfl⟩
  go_wp2
  go_ret
  exact ⟨rfl, rfl⟩

set_option maxHeartbeats 1000000 in
theorem step_any {w : World} {b : Nat} {n : Int} {a : Option Addr} {len cap : Nat} {z : Nat → Int} (h : Clk w b n) (hz : WordsAt w a len z) (hn : len = 0 ∨ ∀ x, a = some x → x.block ∉ [b]) (hl : len ≤ 9223372036854775807) :
    Calls Try.prog 20 #[.pointer (some ⟨b, 0, none⟩), .slice a len cap] w fun e w' =>
      e = .returned (.int .u64 (stepTo z n len)) ∧ Clk w' b (stepTo z n len) ∧ Ch [b] w w' ∧ w'.heap.size = w.heap.size := by
  have H := Lib.hid h
  have HZ := Lib.hid hz
  have HN := Lib.hid hn
  have HL := Lib.hid hl
  clear h hz hn hl
  go_enter Try.func20, Try.ntmps20
  go_wp2_with fail
  go_loopw [11] (fun v wr => ∃ k : Nat, k ≤ len ∧ v = .int .i64 (k : Int) ∧ Clk wr b (stepTo z n k) ∧ Ch [b] w wr ∧ wr.heap.size = w.heap.size) (fun v _ => len - (intOf v).toNat)
  case atStart => exact ⟨0, Nat.zero_le _, rfl, H.out, Ch.refl _ _, rfl⟩
  case round =>
    obtain ⟨k, hk, rfl, hx, hc, hs⟩ := hrel
    have HX := Lib.hid hx
    have HC := Lib.hid hc
    have HS := Lib.hid hs
    have cc := hx.c
    have cf := hx.f
    clear hx hc hs H
    have hL := HL.out
    by_cases hlt : k < len
    · have hzw := HZ.out.ch HC.out HN.out
      obtain ⟨c, off, rfl, hcell⟩ := hzw.at'.resolve_left (by omega)
      have hx := hcell k hlt
      have hb0 : (0 : Int) ≤ (k : Int) := by omega
      have hb1 : (k : Int) < (len : Int) := by omega
      have HA := Lib.hid (add_any (stepTo_wd (HX.out.wd) (z := fun _ => 0) (fun _ => ⟨by decide, by decide⟩) 0) (HZ.out.wd k) wr)
      have HP := Lib.hid (HX.out.set (m := stepTo z n (k + 1)) (addV_wd HX.out.wd (HZ.out.wd k)))
      have HE := Lib.hid (show stepTo z n (k + 1) = addV (stepTo z n k) (z k) from rfl)
      simp only [stepTo] at HA
      obtain ⟨V, hV⟩ : ∃ V, stepTo z n (k + 1) = V := ⟨_, rfl⟩
      have HV := Lib.hid hV
      rw [hV] at HP HE
      generalize stepTo z n k = U at *
      generalize z k = d at *
      clear hzw hcell hV
      go_wp2_with fail
      with_reducible refine HA.out.mono ?_
      rintro e w1 ⟨rfl, rfl⟩
      rw [← HE.out]
      generalize addO U d = O
      go_wp2_with fail
      go_roundw
      case rel => exact ⟨k + 1, by omega, by go_num, HV.out ▸ HP.out, HC.out.setCell (p := ⟨b, 0, none⟩) (by simp) _, by simpa [World.setCell] using HS.out⟩
      case measure => simp [intOf]; omega
    · obtain rfl : k = len := by omega
      clear hlt hk
      go_wp2
      go_ret
      exact ⟨rfl, HX.out, HC.out, HS.out⟩
theorem step_nil (a : Option Addr) (len cap : Nat) (w : World) : Calls Try.prog 20 #[.pointer none, .slice a len cap] w fun e w' => e = .returned (.int .u64 0) ∧ w' = w := by
  go_enter Try.func20, Try.ntmps20
  go_wp2
  go_ret
  exact ⟨rfl, rfl⟩

/-- What the closure of Due is asked: is this one due? -/
theorem asks_any {w : World} {b B : Nat} {n x : Int} (h : Clk w b n) (hB : w.cell? ⟨B, 0, none⟩ = some (.pointer (some ⟨b, 0, none⟩))) :
    Calls Try.prog 23 #[.int .u64 x, .pointer (some ⟨B, 0, none⟩)] w fun e w' => e = .returned (.bool (decide (x ≤ n))) ∧ w' = w := by
  have c := h.c
  clear h
  go_enter Try.func23, Try.ntmps23
  go_wp2
  go_ret
  exact ⟨rfl, rfl⟩

set_option maxHeartbeats 1000000 in
theorem count_any {w : World} {b B : Nat} {n : Int} {a : Option Addr} {len cap : Nat} {z : Nat → Int} (h : Clk w b n) (hB : w.cell? ⟨B, 0, none⟩ = some (.pointer (some ⟨b, 0, none⟩))) (hz : WordsAt w a len z) (hl : len ≤ 9223372036854775807) :
    Calls Try.prog 22 #[.slice a len cap, .func (.func 23) #[] #[.pointer (some ⟨B, 0, none⟩)]] w fun e w' =>
      e = .returned (.int .i64 (dueTo z n len : Nat)) ∧ w' = w := by
  have HZ := Lib.hid hz
  have HL := Lib.hid hl
  have HA := Lib.hid (fun x => asks_any (x := x) h hB)
  clear h hz hl hB
  go_enter Try.func22, Try.ntmps22
  go_wp2_with fail
  go_loopw [5, 10] (fun nv v wr => ∃ k : Nat, k ≤ len ∧ v = .int .i64 (k : Int) ∧ nv = .int .i64 (dueTo z n k : Nat) ∧ wr = w) (fun _ v _ => len - (intOf v).toNat)
  case atStart => exact ⟨0, Nat.zero_le _, rfl, rfl, rfl⟩
  case round =>
    obtain ⟨k, hk, rfl, rfl, rfl⟩ := hrel
    have hL := HL.out
    by_cases hlt : k < len
    · obtain ⟨c, off, rfl, hcell⟩ := HZ.out.at'.resolve_left (by omega)
      have hx := hcell k hlt
      have hb0 : (0 : Int) ≤ (k : Int) := by omega
      have hb1 : (k : Int) < (len : Int) := by omega
      have HLe := Lib.hid (dueTo_le z n k)
      have HE := Lib.hid (show dueTo z n (k + 1) = dueTo z n k + if z k ≤ n then 1 else 0 from rfl)
      have HAk := Lib.hid (HA.out (z k))
      generalize dueTo z n k = U at *
      generalize z k = d at *
      clear hcell
      rcases Int.lt_or_le n d with hd | hd
      · have hd1 : decide (d ≤ n) = false := by simpa using hd
        have HE2 := Lib.hid (show dueTo z n (k + 1) = U by rw [HE.out, if_neg (by omega)]; rfl)
        rw [hd1] at HAk
        clear hd HE
        go_wp2_with fail
        with_reducible refine HAk.out.mono ?_
        rintro e w1 ⟨rfl, rfl⟩
        go_wp2_with fail
        go_roundw
        case rel => exact ⟨k + 1, by omega, by go_num, by rw [HE2.out], trivial⟩
        case measure => simp [intOf]; omega
      · have hd1 : decide (d ≤ n) = true := by simpa using hd
        have HE2 := Lib.hid (show dueTo z n (k + 1) = U + 1 by rw [HE.out, if_pos hd])
        rw [hd1] at HAk
        clear hd HE
        have hU := HLe.out
        go_wp2_with fail
        with_reducible refine HAk.out.mono ?_
        rintro e w1 ⟨rfl, rfl⟩
        go_wp2_with fail
        go_roundw
        case rel => exact ⟨k + 1, by omega, by go_num, by rw [HE2.out]; go_num, trivial⟩
        case measure => simp [intOf]; omega
    · obtain rfl : k = len := by omega
      clear hlt hk
      go_wp2
      go_ret
      exact ⟨rfl, rfl⟩

theorem due_any {w : World} {b : Nat} {n : Int} {a : Option Addr} {len cap : Nat} {z : Nat → Int} (h : Clk w b n) (hz : WordsAt w a len z) (hl : len ≤ 9223372036854775807) :
    Calls Try.prog 21 #[.pointer (some ⟨b, 0, none⟩), .slice a len cap] w fun e w' =>
      e = .returned (.int .i64 (dueTo z n len : Nat)) ∧ Ch [] w w' := by
  have hch := (Ch.refl [] w).alloc (.cells #[.pointer (some ⟨b, 0, none⟩)] 36)
  have hB := (cell_new w (.pointer (some ⟨b, 0, none⟩)) 36).1
  have HN := Lib.hid (count_any (cap := cap) (h.ch hch (by simp)) hB (hz.ch hch (.inr fun _ _ => by simp)) hl)
  have HC := Lib.hid hch
  clear h hz hl hch
  go_enter Try.func21, Try.ntmps21
  go_wp2_with fail
  with_reducible refine HN.out.mono ?_
  rintro e w1 ⟨rfl, rfl⟩
  go_wp2
  go_ret
  exact ⟨rfl, HC.out⟩
theorem due_nil (a : Option Addr) (len cap : Nat) (w : World) : Calls Try.prog 21 #[.pointer none, .slice a len cap] w fun e w' => e = .returned (.int .i64 0) ∧ Ch [] w w' := by
  have HC := Lib.hid ((Ch.refl [] w).alloc (.cells #[.pointer none] 36))
  have hB := (cell_new w (.pointer none) 36).1
  go_enter Try.func21, Try.ntmps21
  go_wp2
  go_ret
  exact ⟨rfl, HC.out⟩
end Go.Proofs.Ytpojhkcohadcpaa

/-
  The document's Digits: a numeral.
-/
import Derived.Test.YtgldkalagmjkfaaDoorIsG
import Derived.Laws.IdiomStrings
import Derived.Laws.BytesString
import Derived.Laws.Concat
import Derived.Lib.ItoaLen
import Derived.Lib.ItoaMem
namespace Go.Proofs.YtgldkalagmjkfaaDoor
open Go.RowKit

theorem rcheck_any (x : I5) (w : World) : Calls Tryd.prog 12 #[iv x] w fun e w' => e = .returned (.int .i64 (chk x)) ∧ Ch [] w w' := by
  by_cases h : cls x.op = 0
  · have hc : chk x = 11 := by unfold chk; rw [if_pos h]
    rw [hc]; exact rcheck_none h w
  · by_cases hb : inB x
    · have hc : chk x = if form x then 0 else 9 := by
        unfold chk; rw [if_neg h, if_neg (by simpa using hb)]
        by_cases hf : form x <;> simp [hf]
      rw [hc]; exact rcheck_form h hb w
    · have hc : chk x = 2 := by unfold chk; rw [if_neg h, if_pos hb]
      rw [hc]; exact rcheck_out h hb w

/-- string([]byte{b}). -/
theorem conv_one (W : World) (b : Nat) {n : Nat} (hn : n < 256) (h : W.cell? ⟨b, 0, none⟩ = some (.int .u8 (n : Int))) : (convert 40 9 (.slice (some ⟨b, 0, none⟩) 1 1)).run Tryd.prog W = .ok (.string ⟨#[UInt8.ofNat n]⟩) W :=
  run_convert_bytes_back W 40 9 5 ⟨b, 0, none⟩ 1 [UInt8.ofNat n] Tryd.underlying40 Tryd.underlying5 Tryd.underlying9 (fun j hj => by
    obtain rfl : j = 0 := by simpa using hj
    rw [addr_add, Nat.zero_add, h]
    simp only [List.getElem_cons_zero]
    rw [UInt8.toNat_ofNat_of_lt' (by show _ < 256; omega)])
theorem conv_new (W : World) {n : Nat} (hn : n < 256) : (convert 40 9 (.slice (some ⟨W.heap.size, 0, none⟩) 1 1)).run Tryd.prog (W.alloc (.cells #[.int .u8 (n : Int)] 5)) = .ok (.string ⟨#[UInt8.ofNat n]⟩) (W.alloc (.cells #[.int .u8 (n : Int)] 5)) :=
  conv_one _ _ hn (by rw [World.cell?_alloc_at _ _ _ _ rfl]; rfl)

theorem conv_kept {w w2 : World} {v : Nat} (hv : v < 256) (hc : Ch [] (w.alloc (.cells #[.int .u8 (v : Int)] 5)) w2) : (convert 40 9 (.slice (some ⟨w.heap.size, 0, none⟩) 1 1)).run Tryd.prog w2 = .ok (.string ⟨#[UInt8.ofNat v]⟩) w2 :=
  conv_one w2 w.heap.size hv ((hc.cell (p := ⟨w.heap.size, 0, none⟩) (by simp) (by simp)).trans (by rw [World.cell?_alloc_at _ _ _ _ rfl]; rfl))

theorem digit_one {u : Nat} (hu : u < 10) (w : World) : Calls Tryd.prog 25 #[.int .i64 (u : Int)] w fun e w' => e = .returned (.string ⟨(Lib.decDigits u).toArray⟩) ∧ Ch [] w w' := by
  rw [Lib.decDigits_one hu]
  obtain ⟨v, hv⟩ : ∃ v : Nat, v = 48 + u := ⟨_, rfl⟩
  have hw1 : IntKind.i64.wrap (48 + (u : Int)) = (v : Int) := by rw [IntKind.wrap_i64]; omega
  have hw2 : IntKind.u8.wrap (v : Int) = (v : Int) := by rw [IntKind.wrap_u8]; omega
  have hcv := conv_new w (n := v) (by omega)
  have d0 : decide ((u : Int) < 0) = false := decide_eq_false (by omega)
  have d1 : decide ((u : Int) < 10) = true := decide_eq_true (by omega)
  rw [← hv]
  clear hv
  go_enter Tryd.func25, Tryd.ntmps25
  go_wp2
  go_ret
  exact ⟨rfl, (Ch.refl [] _).alloc _⟩

theorem size_mk (l : List UInt8) : (⟨l.toArray⟩ : ByteArray).size = l.length := by show l.toArray.size = _; simp

theorem digit_more {u : Nat} (hu : ¬ u < 10) (hb : u < 9223372036854775807) (ih : ∀ w, Calls Tryd.prog 25 #[.int .i64 ((u / 10 : Nat) : Int)] w fun e w' => e = .returned (.string ⟨(Lib.decDigits (u / 10)).toArray⟩) ∧ Ch [] w w') (w : World) :
    Calls Tryd.prog 25 #[.int .i64 (u : Int)] w fun e w' => e = .returned (.string ⟨(Lib.decDigits u).toArray⟩) ∧ Ch [] w w' := by
  have HI := Lib.hid ih
  have hD : Lib.decDigits u = Lib.decDigits (u / 10) ++ [UInt8.ofNat (48 + u % 10)] := by rw [Lib.decDigits, dif_neg hu]
  rw [hD]
  obtain ⟨v, hv⟩ : ∃ v : Nat, v = 48 + u % 10 := ⟨_, rfl⟩
  obtain ⟨q, hq⟩ : ∃ q : Nat, q = u / 10 := ⟨_, rfl⟩
  obtain ⟨r, hr⟩ : ∃ r : Int, r = (u : Int) % 10 := ⟨_, rfl⟩
  have hlen : (Lib.decDigits (u / 10)).length ≤ 21 := by
    have := Lib.itoa_length_le ((u / 10 : Nat) : Int) (by omega) (by omega)
    rw [Lib.itoa_nonneg] at this
    omega
  rw [← hq] at HI hlen
  rw [← hv, ← hq]
  generalize Lib.decDigits q = l at *
  have htd : Int.tdiv (u : Int) 10 = (q : Int) := by rw [Int.tdiv_eq_ediv_of_nonneg (by omega)]; omega
  have htm : Int.tmod (u : Int) 10 = r := by rw [Int.tmod_eq_emod_of_nonneg (by omega), hr]
  have hw0 : IntKind.i64.wrap (q : Int) = (q : Int) := by rw [IntKind.wrap_i64]; omega
  have hw3 : IntKind.i64.wrap r = r := by rw [IntKind.wrap_i64]; omega
  have hw1 : IntKind.i64.wrap (48 + r) = (v : Int) := by rw [IntKind.wrap_i64]; omega
  have hw2 : IntKind.u8.wrap (v : Int) = (v : Int) := by rw [IntKind.wrap_u8]; omega
  have hvb : v < 256 := by omega
  have d0 : decide ((u : Int) < 0) = false := decide_eq_false (by omega)
  have d1 : decide ((u : Int) < 10) = false := decide_eq_false (by omega)
  have HL := Lib.hid hlen
  have HV := Lib.hid hvb
  have hcv := conv_kept (w := w) (v := v) hvb (Ch.refl [] _).drew
  have hadd : (Op.stringOp .add ⟨l.toArray⟩ ⟨#[UInt8.ofNat v]⟩).run Tryd.prog = fun W => .ok (.string ⟨(l ++ [UInt8.ofNat v]).toArray⟩) W := by
    funext W
    have := run_string_add_lists (P := Tryd.prog) (w := W) l [UInt8.ofNat v] (by omega) (by simp)
    simpa using this
  clear hv hq hr hD hu hb ih hlen hvb
  go_enter Tryd.func25, Tryd.ntmps25
  go_wp2_with fail
  go_region_with (first
    | (with_reducible refine (HI.out _).mono ?_; rintro e w2 ⟨rfl, hc2⟩; have hcv2 := conv_new w2 HV.out; (first | have hcv3 := conv_kept HV.out ((Ch.refl [] _).drew.trans hc2) | skip); (first | have HC2 := Lib.hid (((Ch.refl [] w).alloc _).drew.trans hc2) | have HC2 := Lib.hid ((Ch.refl [] w).drew.trans hc2)); clear hc2)
    | fail)
  all_goals
    simp only [Act.put, List.getElem_toArray, List.getElem_cons_succ, List.getElem_cons_zero, List.setIfInBounds_toArray, List.set_cons_zero, List.set_cons_succ]
    go_wp2
    go_ret
    first | exact ⟨rfl, HC2.out⟩ | exact ⟨rfl, HC2.out.alloc _⟩

theorem digits_nat (u : Nat) (hb : u < 9223372036854775807) : ∀ w, Calls Tryd.prog 25 #[.int .i64 (u : Int)] w fun e w' => e = .returned (.string ⟨(Lib.decDigits u).toArray⟩) ∧ Ch [] w w' := by
  induction u using Nat.strongRecOn with
  | _ u ih =>
    by_cases hu : u < 10
    · exact digit_one hu
    · exact digit_more hu hb (ih (u / 10) (by omega) (by omega))

theorem digits_any {n : Int} (h0 : -9223372036854775807 < n) (h1 : n < 9223372036854775807) (w : World) : Calls Tryd.prog 25 #[.int .i64 n] w fun e w' => e = .returned (.string ⟨(Lib.itoa n).toArray⟩) ∧ Ch [] w w' := by
  by_cases hn : n < 0
  · have hI : Lib.itoa n = 45 :: Lib.decDigits n.natAbs := by unfold Lib.itoa; rw [if_pos hn]
    obtain ⟨u, hu⟩ : ∃ u : Nat, -n = (u : Int) := ⟨n.natAbs, by omega⟩
    have hu2 : n.natAbs = u := by omega
    have HD := Lib.hid (digits_nat u (by omega))
    have hlen : (Lib.decDigits u).length ≤ 21 := by
      have := Lib.itoa_length_le (u : Int) (by omega) (by omega)
      rw [Lib.itoa_nonneg] at this
      omega
    rw [hI, hu2]
    generalize Lib.decDigits u = l at *
    have hw : IntKind.i64.wrap (-n) = (u : Int) := by rw [IntKind.wrap_i64]; omega
    have d0 : decide (n < 0) = true := decide_eq_true hn
    have hadd : (Op.stringOp .add ⟨#[45]⟩ ⟨l.toArray⟩).run Tryd.prog = fun W => .ok (.string ⟨(45 :: l).toArray⟩) W := by
      funext W
      have := run_string_add_lists (P := Tryd.prog) (w := W) [45] l (by simp) (by omega)
      simpa using this
    clear hn hI hu hu2 hlen h0 h1
    go_enter Tryd.func25, Tryd.ntmps25
    go_wp2_with (first
      | (with_reducible refine (HD.out _).mono ?_; rintro e w2 ⟨rfl, hc2⟩; have HC2 := Lib.hid hc2; clear hc2)
      | fail)
    go_ret
    exact ⟨rfl, HC2.out⟩
  · obtain ⟨u, rfl⟩ : ∃ u : Nat, n = (u : Int) := ⟨n.toNat, by omega⟩
    rw [Lib.itoa_nonneg]
    exact digits_nat u (by omega) w
end Go.Proofs.YtgldkalagmjkfaaDoor

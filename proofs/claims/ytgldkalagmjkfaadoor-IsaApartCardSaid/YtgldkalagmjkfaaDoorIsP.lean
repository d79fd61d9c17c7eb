/-
  An instruction as the program's and as the document's; the chapter's examples.
-/
import Derived.Test.YtgldkalagmjkfaaDoorIsO
namespace Go.Proofs.YtgldkalagmjkfaaDoor
open Go.RowKit Go.Lib

attribute [local go_sem] Oper.semAt_some

theorem to_any (x : I5) (w : World) : Calls Tryd.prog 15 #[iv x] w fun e w' => e = .returned (iv x) ∧ Ch [] w w' := by
  obtain ⟨op, d, s, o, i⟩ := x
  have HF := Lib.hid (Five.new w ⟨op, d, s, o, i⟩ 29)
  have HB := Lib.hid ((Ch.refl [] w).alloc (.cells #[.int .i64 op, .int .i64 d, .int .i64 s, .int .i64 o, .int .i64 i] 29))
  have HF2 := Lib.hid (HF.out.ch ((Ch.refl [] _).alloc (.cells #[.int .i64 0, .int .i64 0, .int .i64 0, .int .i64 0, .int .i64 0] 34)) (by simp))
  obtain ⟨a0, a1, a2, a3, a4⟩ := HF2.out
  simp only at a0 a1 a2 a3 a4
  unfold iv
  go_enter Tryd.func15, Tryd.ntmps15
  go_wp2
  refine post_val ?_ rfl (HB.out.alloc _)
  simp [results, Tryd.f15, go_sem]
theorem of_any (x : I5) (w : World) : Calls Tryd.prog 22 #[iv x] w fun e w' => e = .returned (iv x) ∧ Ch [] w w' := by
  obtain ⟨op, d, s, o, i⟩ := x
  have HF := Lib.hid (Five.new w ⟨op, d, s, o, i⟩ 34)
  have HB := Lib.hid ((Ch.refl [] w).alloc (.cells #[.int .i64 op, .int .i64 d, .int .i64 s, .int .i64 o, .int .i64 i] 34))
  have HF2 := Lib.hid (HF.out.ch ((Ch.refl [] _).alloc (.cells #[.int .i64 0, .int .i64 0, .int .i64 0, .int .i64 0, .int .i64 0] 29)) (by simp))
  obtain ⟨a0, a1, a2, a3, a4⟩ := HF2.out
  simp only at a0 a1 a2 a3 a4
  unfold iv
  go_enter Tryd.func22, Tryd.ntmps22
  go_wp2
  refine post_val ?_ rfl (HB.out.alloc _)
  simp [results, Tryd.f22, go_sem]

theorem itoa_one {u : Nat} (h : u < 10) : itoa (u : Int) = [UInt8.ofNat (48 + u)] := by rw [itoa_nonneg, decDigits_one h]
theorem txt_stv : txt ⟨67, 1, 2, 0, 0⟩ = [115, 116, 118, 32, 114, 49, 44, 32, 48, 44, 32, 114, 50] := by
  have i0 : itoa 0 = [48] := itoa_one (u := 0) (by decide)
  have i1 : itoa 1 = [49] := itoa_one (u := 1) (by decide)
  have i2 : itoa 2 = [50] := itoa_one (u := 2) (by decide)
  have h1 : shp 67 = [100, 111, 115] := by decide +kernel
  have h2 : nm 67 = [115, 116, 118] := by decide +kernel
  unfold txt
  simp only [h1, h2, List.map_cons, List.map_nil, part]
  simp [jn0, jn, i0, i1, i2]
theorem txt_exit : txt ⟨73, 0, 0, 0, 0⟩ = [101, 120, 105, 116] := by
  have h1 : shp 73 = [] := by decide +kernel
  have h2 : nm 73 = [101, 120, 105, 116] := by decide +kernel
  unfold txt
  simp only [h1, h2, List.map_nil]
  simp [jn0]
def exL : List I5 := [⟨0, 1, 0, 0, 5⟩, ⟨50, 2, 3, -2, 0⟩]
theorem exL_ok : firstE exL = 0 ∧ encL exL = [0, 16, 0, 0, 5, 0, 0, 0, 50, 35, 254, 255, 0, 0, 0, 0] := by decide +kernel
theorem fit_of {n : Int} (h0 : -1000000 ≤ n) (h1 : n ≤ 1000000) : fit n := ⟨by omega, by omega⟩

set_option maxHeartbeats 2000000 in
theorem known_any {w : World} (hT : Tb w) : Calls Tryd.prog 11 #[] w fun e w' => e = .returned (.bool true) ∧ Ch [] w w' := by
  have hex : InsAt (w.alloc (.cells #[.int .i64 0, .int .i64 1, .int .i64 0, .int .i64 0, .int .i64 5, .int .i64 50, .int .i64 2, .int .i64 3, .int .i64 (-2), .int .i64 0] 34)) (some ⟨w.heap.size, 0, none⟩) exL := by
    refine .inr ⟨w.heap.size, 0, rfl, fun i hi => ?_⟩
    have hi2 : i < 2 := hi
    obtain rfl | rfl : i = 0 ∨ i = 1 := by omega
    all_goals constructor <;> (rw [World.cell?_alloc_at _ _ _ _ rfl]; rfl)
  have HBy := Lib.hid (bytes_any (cap := 2) (n := 2) (L := exL) rfl (by decide) hex (by
    intro x hx
    simp only [exL, List.mem_cons, List.not_mem_nil, or_false] at hx
    rcases hx with rfl | rfl <;> exact ⟨fit_of (by decide) (by decide), fit_of (by decide) (by decide), fit_of (by decide) (by decide), fit_of (by decide) (by decide), fit_of (by decide) (by decide)⟩))
  have HC := Lib.hid ((Ch.refl [] w).alloc (.cells #[.int .i64 0, .int .i64 1, .int .i64 0, .int .i64 0, .int .i64 5, .int .i64 50, .int .i64 2, .int .i64 3, .int .i64 (-2), .int .i64 0] 34))
  have HT := Lib.hid hT
  have HX1 := Lib.hid (fun (w : World) (h : Tb w) => text_any (x := ⟨67, 1, 2, 0, 0⟩) ⟨fit_of (by decide) (by decide), fit_of (by decide) (by decide), fit_of (by decide) (by decide), fit_of (by decide) (by decide), fit_of (by decide) (by decide)⟩ (by decide +kernel) h)
  have HX2 := Lib.hid (fun (w : World) (h : Tb w) => text_any (x := ⟨73, 0, 0, 0, 0⟩) ⟨fit_of (by decide) (by decide), fit_of (by decide) (by decide), fit_of (by decide) (by decide), fit_of (by decide) (by decide), fit_of (by decide) (by decide)⟩ (by decide +kernel) h)
  rw [txt_stv] at HX1
  rw [txt_exit] at HX2
  unfold iv at HX1 HX2
  simp only at HX1 HX2
  clear hex hT
  go_enter Tryd.func11, Tryd.ntmps11
  go_wp2_with fail
  with_reducible refine HBy.out.mono ?_
  rintro e w1 ⟨he, hc1⟩
  rcases he with ⟨hne, -⟩ | ⟨-, v, rfl, hnb⟩
  · exact absurd exL_ok.1 hne
  rw [exL_ok.2] at hnb
  obtain ⟨va, vc, rfl, hby, -⟩ := hnb.form
  have HC1 := Lib.hid (HC.out.trans hc1)
  clear hnb hc1
  have hnew : BytesAt (w1.alloc (.cells #[.int .u8 0, .int .u8 16, .int .u8 0, .int .u8 0, .int .u8 5, .int .u8 0, .int .u8 0, .int .u8 0, .int .u8 50, .int .u8 35, .int .u8 254, .int .u8 255, .int .u8 0, .int .u8 0, .int .u8 0, .int .u8 0] 5)) (some ⟨w1.heap.size, 0, none⟩) [0, 16, 0, 0, 5, 0, 0, 0, 50, 35, 254, 255, 0, 0, 0, 0] := by
    refine .inr ⟨w1.heap.size, 0, rfl, fun i hi => ?_⟩
    rw [World.cell?_alloc_at _ _ _ _ rfl]
    have hi2 : i < 16 := hi
    obtain (rfl | rfl | rfl | rfl | rfl | rfl | rfl | rfl | rfl | rfl | rfl | rfl | rfl | rfl | rfl | rfl) : i = 0 ∨ i = 1 ∨ i = 2 ∨ i = 3 ∨ i = 4 ∨ i = 5 ∨ i = 6 ∨ i = 7 ∨ i = 8 ∨ i = 9 ∨ i = 10 ∨ i = 11 ∨ i = 12 ∨ i = 13 ∨ i = 14 ∨ i = 15 := by omega
    all_goals rfl
  have HS := Lib.hid (same_any vc 16 (n := 16) rfl (by decide) (hby.ch ((Ch.refl [] w1).alloc (.cells #[.int .u8 0, .int .u8 16, .int .u8 0, .int .u8 0, .int .u8 5, .int .u8 0, .int .u8 0, .int .u8 0, .int .u8 50, .int .u8 35, .int .u8 254, .int .u8 255, .int .u8 0, .int .u8 0, .int .u8 0, .int .u8 0] 5)) (by simp)) hnew)
  have HC2 := Lib.hid (HC1.out.alloc (.cells #[.int .u8 0, .int .u8 16, .int .u8 0, .int .u8 0, .int .u8 5, .int .u8 0, .int .u8 0, .int .u8 0, .int .u8 50, .int .u8 35, .int .u8 254, .int .u8 255, .int .u8 0, .int .u8 0, .int .u8 0, .int .u8 0] 5))
  clear hby hnew
  go_wp2_with fail
  with_reducible refine HS.out.mono ?_
  rintro e w2 ⟨rfl, hc2⟩
  have HC3 := Lib.hid (HC2.out.trans hc2)
  clear hc2
  go_wp2_with fail
  with_reducible refine (HX1.out _ (HT.out.ch HC3.out)).mono ?_
  rintro e w3 ⟨rfl, hc3⟩
  have HC4 := Lib.hid (HC3.out.trans hc3)
  clear hc3
  go_wp2_with fail
  with_reducible refine (HX2.out _ (HT.out.ch HC4.out)).mono ?_
  rintro e w4 ⟨rfl, hc4⟩
  have HC5 := Lib.hid (HC4.out.trans hc4)
  clear hc4
  go_wp2
  go_ret
  exact ⟨rfl, HC5.out⟩
end Go.Proofs.YtgldkalagmjkfaaDoor

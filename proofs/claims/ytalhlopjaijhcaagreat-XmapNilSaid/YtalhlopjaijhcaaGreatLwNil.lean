/-
  The law XmapNil, walked.
-/
import Derived.Test.YtalhlopjaijhcaaGreatMgM
namespace Go.Proofs.YtalhlopjaijhcaaGreat
open Go.RowKit

attribute [local go_sem] Oper.semAt_some

set_option maxHeartbeats 4000000 in
set_option maxRecDepth 100000 in
theorem nil_law (k : Nat) (hd : Int × Int) (i : Int) (w : World) : Calls Tryz.prog 7 #[.int .u64 (k : Int), hdV hd, .int .i64 i] w fun e w' => e = .returned (.bool true) ∧ Ch [] w w' := by
  obtain ⟨p, q⟩ := hd
  obtain ⟨w1, hw1⟩ : ∃ w1, w1 = w.alloc (.cells #[.int .i64 p, .int .i64 q] 39) := ⟨_, rfl⟩
  have HC1 := Lib.hid (show Ch [] w w1 by rw [hw1]; exact (Ch.refl [] w).alloc _)
  have HH1 := Lib.hid (show HB w1 w.heap.size 39 #[.int .i64 p, .int .i64 q] by rw [hw1]; exact HB.new w _ _)
  have HW1 := Lib.hid hw1
  obtain ⟨H, hH⟩ : ∃ H, H = w.heap.size := ⟨_, rfl⟩
  rw [← hH] at HH1
  have HHe := Lib.hid hH
  clear hw1 hH
  have HF := Lib.hid (fun W => find_nil k W)
  have HL := Lib.hid (fun W => look_nil k W)
  have HP := Lib.hid (fun W => put_nil i k (.slice none 0 0) W)
  have HD := Lib.hid (fun W => del_nil k W)
  have HLd := Lib.hid (fun W => load_nil (p, q) i W)
  have HK := Lib.hid (fun W => key_nil (p, q) W)
  have HFr := Lib.hid (fun W => free_nil (p, q) W)
  have HSt := Lib.hid (fun W => store_nil (p, q) i k W)
  have HLi := Lib.hid (fun W => linked_nil (p, q) W)
  have HCl := Lib.hid (fun W => close_nil W)
  have HKs := Lib.hid (fun W => keys_nil W)
  have HI := Lib.hid (fun W => ints_nil W)
  have HKn := Lib.hid (fun W => known_any W)
  go_enter Tryz.func7, Tryz.ntmps7
  go_wp2_with fail
  rw [← HW1.out, ← HHe.out]
  refine (HF.out _).mono ?_
  rintro e w2 ⟨rfl, hc⟩
  have HC2 := Lib.hid (HC1.out.trans hc)
  have HH2 := Lib.hid (HH1.out.ch hc (by simp))
  clear hc HC1 HH1
  go_wp2_with fail
  obtain ⟨w3, hw3⟩ : ∃ w3, w3 = w2.alloc (.cells #[.int .i64 0, .int .i64 0] 39) := ⟨_, rfl⟩
  have HA3 := Lib.hid (show HB w3 w2.heap.size 39 #[.int .i64 0, .int .i64 0] by rw [hw3]; exact HB.new w2 _ _)
  have hc3 : Ch [] w2 w3 := by rw [hw3]; exact (Ch.refl [] w2).alloc _
  change Calls _ _ _ (w2.alloc (.cells #[.int .i64 0, .int .i64 0] 39)) _
  rw [← hw3]
  obtain ⟨A, hA⟩ : ∃ A, A = w2.heap.size := ⟨_, rfl⟩
  rw [← hA] at HA3 ⊢
  refine (HL.out _).mono ?_
  rintro e w4 ⟨rfl, hc⟩
  have HC4 := Lib.hid ((HC2.out.trans hc3).trans hc)
  have HH4 := Lib.hid (HH2.out.ch (hc3.trans hc) (by simp))
  have HA4 := Lib.hid (HA3.out.ch hc (by simp))
  clear hc HC2 HH2 HA3 hA hw3 hc3
  go_wp2_with fail
  obtain ⟨w5, hw5⟩ : ∃ w5, w5 = w4.alloc (.cells #[.int .i64 0, .int .i64 0] 39) := ⟨_, rfl⟩
  have HB5 := Lib.hid (show HB w5 w4.heap.size 39 #[.int .i64 0, .int .i64 0] by rw [hw5]; exact HB.new w4 _ _)
  have hc5 : Ch [] w4 w5 := by rw [hw5]; exact (Ch.refl [] w4).alloc _
  change Calls _ _ _ (w4.alloc (.cells #[.int .i64 0, .int .i64 0] 39)) _
  rw [← hw5]
  obtain ⟨B, hB⟩ : ∃ B, B = w4.heap.size := ⟨_, rfl⟩
  rw [← hB] at HB5 ⊢
  refine (HP.out _).mono ?_
  rintro e w6 ⟨rfl, hc⟩
  have HC6 := Lib.hid ((HC4.out.trans hc5).trans hc)
  have HH6 := Lib.hid (HH4.out.ch (hc5.trans hc) (by simp))
  have HA6 := Lib.hid (HA4.out.ch (hc5.trans hc) (by simp))
  have HB6 := Lib.hid (HB5.out.ch hc (by simp))
  clear hc HC4 HH4 HA4 HB5 hB hw5 hc5
  go_wp2_with fail
  obtain ⟨w7, hw7⟩ : ∃ w7, w7 = w6.alloc (.cells (paC noA) 62) := ⟨_, rfl⟩
  have HP7 := Lib.hid (show HB w7 w6.heap.size 62 (paC noA) by rw [hw7]; exact HB.new w6 _ _)
  have hc7 : Ch [] w6 w7 := by rw [hw7]; exact (Ch.refl [] w6).alloc _
  change Calls _ _ _ (w6.alloc (.cells (paC noA) 62)) _
  rw [← hw7]
  obtain ⟨P, hP⟩ : ∃ P, P = w6.heap.size := ⟨_, rfl⟩
  rw [← hP] at HP7 ⊢
  refine (HD.out _).mono ?_
  rintro e w8 ⟨rfl, hc⟩
  have HC8 := Lib.hid ((HC6.out.trans hc7).trans hc)
  have HH8 := Lib.hid (HH6.out.ch (hc7.trans hc) (by simp))
  have HA8 := Lib.hid (HA6.out.ch (hc7.trans hc) (by simp))
  have HB8 := Lib.hid (HB6.out.ch (hc7.trans hc) (by simp))
  have HP8 := Lib.hid (HP7.out.ch hc (by simp))
  clear hc HC6 HH6 HA6 HB6 HP7 hP hw7 hc7
  obtain ⟨w9, hw9⟩ : ∃ w9, w9 = w8.alloc (.cells #[.int .i64 0, .int .i64 0] 39) := ⟨_, rfl⟩
  have HD9 := Lib.hid (show HB w9 w8.heap.size 39 #[.int .i64 0, .int .i64 0] by rw [hw9]; exact HB.new w8 _ _)
  have hc9 : Ch [] w8 w9 := by rw [hw9]; exact (Ch.refl [] w8).alloc _
  have g0 := (HH8.out.ch hc9 (by simp)).c 0 rfl
  have g1 := (HH8.out.ch hc9 (by simp)).c 1 rfl
  rw [hw9] at g0 g1
  go_wp2_with fail
  change Calls _ _ _ (w8.alloc (.cells #[.int .i64 0, .int .i64 0] 39)) _
  rw [← hw9]
  obtain ⟨D, hD⟩ : ∃ D, D = w8.heap.size := ⟨_, rfl⟩
  rw [← hD] at HD9 ⊢
  refine (HLd.out _).mono ?_
  rintro e w10 ⟨rfl, hc⟩
  have HC10 := Lib.hid ((HC8.out.trans hc9).trans hc)
  have HH10 := Lib.hid (HH8.out.ch (hc9.trans hc) (by simp))
  have HA10 := Lib.hid (HA8.out.ch (hc9.trans hc) (by simp))
  have HB10 := Lib.hid (HB8.out.ch (hc9.trans hc) (by simp))
  have HP10 := Lib.hid (HP8.out.ch (hc9.trans hc) (by simp))
  have HD10 := Lib.hid (HD9.out.ch hc (by simp))
  clear hc HC8 HH8 HA8 HB8 HP8 HD9 hD hw9 hc9 g0 g1
  have g0 := HH10.out.c 0 rfl
  have g1 := HH10.out.c 1 rfl
  go_wp2_with fail
  refine (HK.out _).mono ?_
  rintro e w11 ⟨rfl, hc⟩
  have HC11 := Lib.hid (HC10.out.trans hc)
  have HH11 := Lib.hid (HH10.out.ch hc (by simp))
  have HA11 := Lib.hid (HA10.out.ch hc (by simp))
  have HB11 := Lib.hid (HB10.out.ch hc (by simp))
  have HP11 := Lib.hid (HP10.out.ch hc (by simp))
  have HD11 := Lib.hid (HD10.out.ch hc (by simp))
  clear hc HC10 HH10 HA10 HB10 HP10 HD10 g0 g1
  go_wp2_with fail
  refine (HKn.out _).mono ?_
  rintro e w12 ⟨rfl, hc⟩
  have HC12 := Lib.hid (HC11.out.trans hc)
  have hh := HH11.out.ch hc (by simp)
  have ha := HA11.out.ch hc (by simp)
  have hb := HB11.out.ch hc (by simp)
  have hp := HP11.out.ch hc (by simp)
  have hdd := HD11.out.ch hc (by simp)
  have g0 := hh.c 0 rfl
  have g1 := hh.c 1 rfl
  have a0 := ha.c 0 rfl
  have a1 := ha.c 1 rfl
  have b0 := hb.c 0 rfl
  have b1 := hb.c 1 rfl
  have p0 := hp.c 0 rfl
  have p1 := hp.c 1 rfl
  have p2 := hp.c 2 rfl
  have p3 := hp.c 3 rfl
  have p4 := hp.c 4 rfl
  have d0 := hdd.c 0 rfl
  have d1 := hdd.c 1 rfl
  have HH12 := Lib.hid hh
  clear hc HC11 HH11 HA11 HB11 HP11 HD11 ha hb hp hdd hh
  go_wp2_with fail
  refine (HFr.out _).mono ?_
  rintro e w13 ⟨rfl, hc⟩
  have HC13 := Lib.hid (HC12.out.trans hc)
  have hh := HH12.out.ch hc (by simp)
  have HH13 := Lib.hid hh
  clear g0 g1 a0 a1 b0 b1 p0 p1 p2 p3 p4 d0 d1 HC12 HH12 hc
  have g0 := hh.c 0 rfl
  have g1 := hh.c 1 rfl
  clear hh
  go_wp2_with fail
  refine (HSt.out _).mono ?_
  rintro e w14 ⟨rfl, hc⟩
  have HC14 := Lib.hid (HC13.out.trans hc)
  have hh := HH13.out.ch hc (by simp)
  have HH14 := Lib.hid hh
  clear g0 g1 HC13 HH13 hc
  have g0 := hh.c 0 rfl
  have g1 := hh.c 1 rfl
  clear hh
  go_wp2_with fail
  refine (HLi.out _).mono ?_
  rintro e w15 ⟨rfl, hc⟩
  have HC15 := Lib.hid (HC14.out.trans hc)
  clear g0 g1 HC14 HH14 hc
  go_wp2_with fail
  refine (HCl.out _).mono ?_
  rintro e w16 ⟨rfl, rfl⟩
  go_wp2_with fail
  refine (HKs.out _).mono ?_
  rintro e w17 ⟨rfl, rfl⟩
  go_wp2_with fail
  refine (HI.out _).1.mono ?_
  rintro e w18 ⟨rfl, rfl⟩
  go_wp2_with fail
  refine (HI.out _).2.1.mono ?_
  rintro e w19 ⟨rfl, rfl⟩
  go_wp2_with fail
  refine (HI.out _).2.2.1.mono ?_
  rintro e w20 ⟨rfl, rfl⟩
  go_wp2_with fail
  refine (HI.out _).2.2.2.mono ?_
  rintro e w21 ⟨rfl, rfl⟩
  go_wp2
  go_ret
  exact ⟨rfl, HC15.out⟩
end Go.Proofs.YtalhlopjaijhcaaGreat

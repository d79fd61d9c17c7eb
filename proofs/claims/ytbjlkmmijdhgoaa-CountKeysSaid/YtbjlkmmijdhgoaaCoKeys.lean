/-
  The law CountKeys, walked.
-/
import Derived.Test.YtbjlkmmijdhgoaaCoKA
namespace Go.Proofs.Ytbjlkmmijdhgoaa
open Go.RowKit cI Go.BigFrame

attribute [local go_sem] Oper.semAt_some

/-- The worlds of a class, by a name that says no more of them. -/
theorem k_class (w : World) : ∃ (G : Type) (f : G → World), (∀ g, Ch [] w (f g)) ∧ ∀ W, Ch [] w W → ∃ g, W = f g := ⟨{W // Ch [] w W}, Subtype.val, fun g => g.property, fun W h => ⟨⟨W, h⟩, rfl⟩⟩
theorem k_region {P : Program} {G : Type} (f : G → World) {id : Nat} {Q : Exit → Act → World → Prop} {a : Act} {w : World} {l : List Oper} (hm : P.follows .mixedOrders = true) (hB : Region.lexB .any l.toArray = true) (hS : ∃ g, w.drew = f g)
    (h : wpQuiet P l.toArray (fun w' => ∃ g, w' = f g) (fun a' => ∀ w', (∃ g, w' = f g) → Q .normal a' w') l a) : (Code.region id l.toArray true).wp P Q a w :=
  wp_region_quiet (C := fun w' => ∃ g, w' = f g) hm hB hS (by simpa using h)

/-- A row of calls that came in. -/
def ActsAt (w : World) (a : Option Addr) (len : Nat) : Prop := len = 0 ∨ ∃ b off, a = some ⟨b, off, none⟩ ∧ ∀ i, i < len → ∃ U k : Int, w.cell? ⟨b, off + i * 2, none⟩ = some (.int .i64 U) ∧ w.cell? ⟨b, off + i * 2 + 1, none⟩ = some (.int .i64 k) ∧ wfK k
theorem ActsAt.quiet {w w' : World} {a : Option Addr} {len : Nat} (h : ActsAt w a len) (hc : Ch [] w w') : ActsAt w' a len := by
  rcases h with h | ⟨b, off, e, h⟩
  · exact .inl h
  · refine .inr ⟨b, off, e, fun i hi => ?_⟩
    obtain ⟨U, k, h1, h2, h3⟩ := h i hi
    exact ⟨U, k, (hc.cell (p := ⟨b, off + i * 2, none⟩) (cell_lt h1) (by simp)).trans h1, (hc.cell (p := ⟨b, off + i * 2 + 1, none⟩) (cell_lt h2) (by simp)).trans h2, h3⟩
theorem bad_box {w W : World} {S R top T : Nat} {v : Value} {m : List (Ct Int)} {L : List Ent} (h : KM w W S R top T v m L) : W.heap.size ∉ S :: blocks L := by
  intro hm
  rcases List.mem_cons.1 hm with e1 | hm
  · obtain ⟨D, ho, _⟩ := h.r.own
    have := ho.lt
    omega
  · obtain ⟨x, hx, e1⟩ := List.mem_map.1 hm
    have := (h.r.cnt x hx).1.lt
    omega

set_option maxRecDepth 4000 in
set_option maxHeartbeats 8000000 in
theorem keys_law (a0 : Int) (ab : Option Addr) (len cap : Nat) (a2 : Int) (w : World) (hl : len ≤ 9223372036854775807) (ha : ActsAt w ab len) (hk2 : wfK a2) :
    Calls Try.prog 6 #[.int .i64 a0, .slice ab len cap, .int .i64 a2] w fun e w' => e = .returned (.bool true) ∧ Below w.heap.size w w' := by
  by_cases hbad : a0 < 1 ∨ 65535 < a0
  · have HN := Lib.hid (refs_bad a0 w hbad)
    by_cases h0 : a0 < 1
    · have hd1 : decide (a0 < 1) = true := by simpa using h0
      clear hbad ha hk2
      go_enter Try.func6, Try.ntmps6
      go_wp2_with fail
      with_reducible refine HN.out.mono ?_
      rintro e w1 ⟨rfl, rfl⟩
      go_wp2_with fail
      with_reducible refine (known_any _).mono ?_
      rintro e w5 ⟨rfl, hc5⟩
      have HC5 := Lib.hid hc5
      clear hc5
      go_wp2
      go_ret
      exact ⟨rfl, HC5.out.below _ (by simp) (Nat.le_refl _)⟩
    · have hd1 : decide (a0 < 1) = false := by simpa using h0
      have hd2 : decide (65535 < a0) = true := by simp; omega
      clear hbad ha hk2
      go_enter Try.func6, Try.ntmps6
      go_wp2_with fail
      with_reducible refine HN.out.mono ?_
      rintro e w1 ⟨rfl, rfl⟩
      go_wp2_with fail
      with_reducible refine (known_any _).mono ?_
      rintro e w5 ⟨rfl, hc5⟩
      have HC5 := Lib.hid hc5
      clear hc5
      go_wp2
      go_ret
      exact ⟨rfl, HC5.out.below _ (by simp) (Nat.le_refl _)⟩
  · obtain ⟨top, hT⟩ : ∃ top : Nat, a0 = (top : Int) := ⟨a0.toNat, by omega⟩
    have hd1 : decide (a0 < 1) = false := by simp; omega
    have hd2 : decide (65535 < a0) = false := by simp; omega
    obtain ⟨S, hS⟩ : ∃ S, w.heap.size = S := ⟨_, rfl⟩
    obtain ⟨R, hR⟩ : ∃ R, R = S + 1 := ⟨_, rfl⟩
    have HNew := Lib.hid (refs_new top w S hS (by omega) (by omega))
    rw [← hR, ← hT] at HNew
    have HS := Lib.hid hS
    have HT := Lib.hid hT
    have HAc := Lib.hid ha
    have HK2 := Lib.hid hk2
    have HL := Lib.hid hl
    clear hbad ha hk2 hS hR hT hl
    go_enter Try.func6, Try.ntmps6
    go_wp2_with fail
    with_reducible refine HNew.out.mono ?_
    rintro e w1 ⟨rfl, hf1, hc1, hz1⟩
    obtain ⟨T, hT1⟩ : ∃ T, T = w1.heap.size := ⟨_, rfl⟩
    have HKS := Lib.hid (show KS w w1 S R top T (.slice none 0 0) [] from
      ⟨World.ownsRow_nil w1 _ _ _, hf1, by simp [Srt], hc1, fun x _ e => (by cases e), fun x hx => by have := HS.out; simp at hx; omega, by rw [hT1]; exact Nat.le_refl _⟩)
    clear hf1 hc1 hz1 hT1 HNew
    go_wp2_with fail
    clear hd1 hd2
    go_loopw [9, 10] (fun mv iv wr => ∃ (i : Nat) (vm : Value) (L : List Ent), i ≤ len ∧ i ≤ 120 ∧ iv = .int .i64 (i : Int) ∧ vm = mv ∧ KS w wr S R top T vm L) (fun _ iv _ => 120 - (intOf iv).toNat)
    case atStart => exact ⟨0, _, [], Nat.zero_le _, Nat.zero_le _, rfl, rfl, HKS.out⟩
    case round =>
      obtain ⟨i, vm, L, hi, hi2, rfl, rfl, hks⟩ := hrel
      have HK := Lib.hid hks
      clear hks HKS
      have hcase : (i < len ∧ i < 120) ∨ ¬ i < len ∨ (i < len ∧ ¬ i < 120) := by omega
      rcases hcase with ⟨h1, h2⟩ | h1 | ⟨h1, h2⟩
      · have hd1 : decide ((i : Int) < (len : Int)) = true := by simpa using h1
        have hd2 : decide ((i : Int) < 120) = true := by simp; omega
        obtain ⟨b, off, rfl, hcells⟩ := (HAc.out.quiet HK.out.c).resolve_left (by omega)
        obtain ⟨U, k, a0', a1', hkw⟩ := hcells i h1
        have hb0 : (0 : Int) ≤ (i : Int) := by omega
        have hb1 : (i : Int) < (len : Int) := by omega
        have hL := HL.out
        have HKw := Lib.hid hkw
        have hch := (Ch.refl [] wr).alloc (.cells #[.int .i64 U, .int .i64 k] 49)
        have HB := Lib.hid (Box2.new wr (.int .i64 U) (.int .i64 k) 49)
        have HK2' := Lib.hid (HK.out.quiet hch)
        obtain ⟨A, hA⟩ : ∃ A, A = wr.heap.size := ⟨_, rfl⟩
        rw [← hA] at HB
        have HAe := Lib.hid hA
        have u0 : 0 ≤ IntKind.u64.wrap U ∧ IntKind.u64.wrap U < 18446744073709551616 := by rw [IntKind.wrap_u64]; omega
        generalize hgU : IntKind.u64.wrap U = UU at u0
        obtain ⟨u00, u01⟩ := u0
        have hpar : UU % 2 = 0 ∨ UU % 2 = 1 := by omega
        clear hcells hkw hch hA HK
        rcases hpar with hp | hp
        · have hpp : (UU % 2 == 0) = true := by simp [hp]
          have bx0 := HB.out.c0
          have bx1 := HB.out.c1
          clear hp
          go_wp2_with fail
          rw [← HAe.out]
          generalize wr.alloc (.cells #[.int .i64 U, .int .i64 k] 49) = w4 at *
          have hgo := kh_answer HK2'.out k
          rw [← HT.out] at hgo
          have HGo := Lib.hid hgo
          clear hgo
          go_wp2_with fail
          with_reducible refine HGo.out.mono ?_
          rintro e w5 ⟨v', m', rfl, hperm, hkm, hc5⟩
          have hb5 := HB.out.ch hc5 (by simp)
          have bx1 := hb5.c1
          have hch := (Ch.refl [] w5).alloc (.cells #[.int .i64 k] 3)
          have HX5 := Lib.hid (cell_new w5 (.int .i64 k) 3).1
          have HKM := Lib.hid (hkm.quiet hch)
          have HHo := Lib.hid (kh_call HKM.out HKw.out hperm w5.heap.size 1 HX5.out (bad_box hkm))
          obtain ⟨E, hE⟩ : ∃ E, E = (holdC top (L.map ct) k).2 := ⟨_, rfl⟩
          rw [← hE] at HHo ⊢
          clear hkm hperm hc5 hb5 hch hE HB bx0
          go_wp2_with fail
          with_reducible refine HHo.out.mono ?_
          rintro e w9 ⟨rfl, L', hks9⟩
          clear bx1
          obtain ⟨vm2, L2, hks⟩ : ∃ vm2 L2, KS w w9 S R top T vm2 L2 ∧ vm2 = v' := ⟨v', L', hks9, rfl⟩
          obtain ⟨hks, rfl⟩ := hks
          have HK9 := Lib.hid hks
          clear hks hks9
          go_wp2_with fail
          with_reducible refine (k_keys HK9.out).mono ?_
          rintro e w10 ⟨g1, cap1, rfl, hks10, hcell1⟩
          have HK10 := Lib.hid hks10
          have HX1 := Lib.hid hcell1
          obtain ⟨am, cm, hvm⟩ := own_form hks10.m
          rw [List.length_map] at hvm
          obtain ⟨n, hn⟩ : ∃ n, n = L2.length := ⟨_, rfl⟩
          rw [← hn] at hvm ⊢
          have HVm := Lib.hid hvm
          rw [hvm]
          have HNn := Lib.hid hn
          have H64 := Lib.hid (show n ≤ 64 by rw [hn]; exact hks10.r.hl)
          clear hks10 hcell1 hn hvm
          go_wp2_with fail
          go_loopw [20] (fun jv wq => ∃ j : Nat, j ≤ n ∧ jv = .int .i64 (j : Int) ∧ Ch [] w10 wq) (fun jv _ => n - (intOf jv).toNat)
          case atStart => exact ⟨0, Nat.zero_le _, rfl, Ch.refl _ _⟩
          case round =>
            obtain ⟨j, hj, rfl, hcq⟩ := hrel
            have HCq := Lib.hid hcq
            clear hcq
            by_cases hlt : j < n
            · obtain ⟨x, hx⟩ : ∃ x, L2[j]? = some x := ⟨_, List.getElem?_eq_getElem (by rw [← HNn.out]; exact hlt)⟩
              obtain ⟨LA, LB, hsplit⟩ := List.append_of_mem (List.mem_of_getElem? hx)
              have HRx := Lib.hid (show RF w10 R S top (LA ++ x :: LB) by rw [← hsplit]; exact HK10.out.r)
              have hx1 := HX1.out j x hx
              obtain ⟨gm, cap', e, _, _, _, _, y0, y1, _, y3, _⟩ := HK10.out.m.cells (k := j) (x := ct x) (by rw [List.getElem?_map, hx]; rfl)
              rw [HVm.out, List.length_map, ← HNn.out] at e
              obtain ⟨rfl, rfl⟩ : am = some ⟨gm, 0, none⟩ ∧ cm = cap' := by simpa using e
              have HVa := Lib.hid (show ∀ W, Ch [] w10 W → Calls Try.prog 24 #[.pointer (some ⟨R, 0, none⟩), .int .i64 x.k] W fun r w' => r = .returned (.int .i64 (x.n : Int)) ∧ Ch [] W w' from fun W hW => value_in (HRx.out.quiet hW))
              have HVb := Lib.hid (show ∀ W, Ch [] w10 W → Calls Try.prog 25 #[.pointer (some ⟨R, 0, none⟩), .int .i64 x.k] W fun r w' => r = .returned (.bool x.s) ∧ Ch [] W w' from fun W hW => stuck_in (HRx.out.quiet hW))
              obtain ⟨xk, xb, xn, xs⟩ := x
              simp only [ct] at hx1 y0 y1 y3 HVa HVb
              obtain ⟨G, f, hf1, hf2⟩ := k_class w10
              have hx1' : ∀ g : G, (f g).cell? ⟨g1, j, none⟩ = some (.int .i64 xk) := fun g => ((hf1 g).cell (p := ⟨g1, j, none⟩) (cell_lt hx1) (by simp)).trans hx1
              have hy0' : ∀ g : G, (f g).cell? ⟨gm, j * 4, none⟩ = some (.int .i64 xk) := fun g => ((hf1 g).cell (p := ⟨gm, j * 4, none⟩) (cell_lt y0) (by simp)).trans y0
              have hy1' : ∀ g : G, (f g).cell? ⟨gm, j * 4 + 1, none⟩ = some (.int .i64 (xn : Int)) := fun g => ((hf1 g).cell (p := ⟨gm, j * 4 + 1, none⟩) (cell_lt y1) (by simp)).trans y1
              have hy3' : ∀ g : G, (f g).cell? ⟨gm, j * 4 + 1 + 2, none⟩ = some (.bool xs) := fun g => ((hf1 g).cell (p := ⟨gm, j * 4 + 3, none⟩) (cell_lt y3) (by simp)).trans y3
              have hne7 : Nonempty G := ⟨(hf2 w10 (Ch.refl _ _)).choose⟩
              have HF1 := Lib.hid hf1
              have HF2 := Lib.hid hf2
              have HQ := HCq.out
              have hb0 : (0 : Int) ≤ (j : Int) := by omega
              have hb1 : (j : Int) < (n : Int) := by omega
              have h64 := H64.out
              clear hf1 hf2 hx hsplit hx1 e y0 y1 y3
              go_wp2_with fail
              refine k_region f (by kernel_rfl) (by kernel_rfl) (HF2.out _ HQ.drew) ?_
              repeat (go_big_quiet_step (first
                | (with_reducible refine (HVa.out _ (HF1.out _)).mono ?_; rintro r w' ⟨rfl, hcw⟩; exact ⟨rfl, HF2.out w' ((HF1.out _).trans hcw)⟩)
                | (with_reducible refine (HVb.out _ (HF1.out _)).mono ?_; rintro r w' ⟨rfl, hcw⟩; exact ⟨rfl, HF2.out w' ((HF1.out _).trans hcw)⟩)))
              refine wpQuiet_nil ?_
              rintro _ ⟨gz, rfl⟩
              have HZ := Lib.hid (HF1.out gz)
              generalize f gz = wz at *
              clear hx1' hy0' hy1' hy3' hne7 HQ
              go_wp2_with fail
              go_roundw
              case rel => exact ⟨j + 1, by omega, by go_num, HZ.out⟩
              case measure => simp [intOf]; omega
            · obtain rfl : j = n := by omega
              have HK11 := Lib.hid (HK10.out.quiet HCq.out)
              rcases ct_or (L2.map ct) a2 with ⟨CA, cn, cs', CB, hC, hCA⟩ | hno
              · have HFi := Lib.hid (rfind_in (v := vm2) (show RK _ T vm2 top (CA ++ (a2, cn, cs') :: CB) by rw [← hC]; exact HK11.out.m) hCA (by rw [← hC]; exact HK11.out.len))
                rw [HVm.out] at HFi
                have hneg : decide ((CA.length : Int) < 0) = false := by simp
                generalize CA.length = ca at *
                clear hC hCA
                go_wp2_with fail
                with_reducible refine HFi.out.mono ?_
                rintro e w12 ⟨rfl, rfl⟩
                go_wp2_with fail
                go_roundw
                case rel => exact ⟨i + 1, vm2, L2, by omega, by omega, by go_num, HVm.out, HK11.out⟩
                case measure => simp [intOf]; omega
              · have HFi := Lib.hid (rfind_not HK11.out.m hno HK11.out.len)
                rw [HVm.out] at HFi
                have HNf := Lib.hid (show ∀ e ∈ L2, e.k ≠ a2 from fun e he e1 => hno (ct e) (List.mem_map.2 ⟨e, he, rfl⟩) e1)
                have HNo := Lib.hid (find_not HK11.out.r HK2.out HNf.out)
                clear hno
                go_wp2_with fail
                with_reducible refine HFi.out.mono ?_
                rintro e w12 ⟨rfl, rfl⟩
                go_wp2_with fail
                with_reducible refine (value_not HNo.out).mono ?_
                rintro e w13 ⟨rfl, hc13⟩
                have HK13 := Lib.hid (HK11.out.quiet hc13)
                clear hc13
                go_wp2_with fail
                with_reducible refine (stuck_not (find_not HK13.out.r HK2.out HNf.out)).mono ?_
                rintro e w14 ⟨rfl, hc14⟩
                have HK14 := Lib.hid (HK13.out.quiet hc14)
                clear hc14
                go_wp2_with fail
                go_roundw
                case rel => exact ⟨i + 1, vm2, L2, by omega, by omega, by go_num, HVm.out, HK14.out⟩
                case measure => simp [intOf]; omega
        · have hpp : (UU % 2 == 0) = false := by simp [hp]
          have bx0 := HB.out.c0
          have bx1 := HB.out.c1
          clear hp
          go_wp2_with fail
          rw [← HAe.out]
          generalize wr.alloc (.cells #[.int .i64 U, .int .i64 k] 49) = w4 at *
          have HGo := Lib.hid (kd_answer HK2'.out k)
          go_wp2_with fail
          with_reducible refine HGo.out.mono ?_
          rintro e w5 ⟨v', rfl, hkm, hc5⟩
          have hb5 := HB.out.ch hc5 (by simp)
          have bx1 := hb5.c1
          have HHo := Lib.hid (kd_call hkm HKw.out)
          obtain ⟨E1, hE1⟩ : ∃ E1, E1 = (dropC (L.map ct) k).2.1 := ⟨_, rfl⟩
          obtain ⟨E2, hE2⟩ : ∃ E2, E2 = (dropC (L.map ct) k).2.2 := ⟨_, rfl⟩
          rw [← hE1, ← hE2] at HHo ⊢
          clear hkm hc5 hb5 hE1 hE2 HB bx0
          go_wp2_with fail
          with_reducible refine HHo.out.mono ?_
          rintro e w9 ⟨rfl, L', hks9⟩
          clear bx1
          obtain ⟨vm2, L2, hks⟩ : ∃ vm2 L2, KS w w9 S R top T vm2 L2 ∧ vm2 = v' := ⟨v', L', hks9, rfl⟩
          obtain ⟨hks, rfl⟩ := hks
          have HK9 := Lib.hid hks
          clear hks hks9
          go_wp2_with fail
          with_reducible refine (k_keys HK9.out).mono ?_
          rintro e w10 ⟨g1, cap1, rfl, hks10, hcell1⟩
          have HK10 := Lib.hid hks10
          have HX1 := Lib.hid hcell1
          obtain ⟨am, cm, hvm⟩ := own_form hks10.m
          rw [List.length_map] at hvm
          obtain ⟨n, hn⟩ : ∃ n, n = L2.length := ⟨_, rfl⟩
          rw [← hn] at hvm ⊢
          have HVm := Lib.hid hvm
          rw [hvm]
          have HNn := Lib.hid hn
          have H64 := Lib.hid (show n ≤ 64 by rw [hn]; exact hks10.r.hl)
          clear hks10 hcell1 hn hvm
          go_wp2_with fail
          go_loopw [20] (fun jv wq => ∃ j : Nat, j ≤ n ∧ jv = .int .i64 (j : Int) ∧ Ch [] w10 wq) (fun jv _ => n - (intOf jv).toNat)
          case atStart => exact ⟨0, Nat.zero_le _, rfl, Ch.refl _ _⟩
          case round =>
            obtain ⟨j, hj, rfl, hcq⟩ := hrel
            have HCq := Lib.hid hcq
            clear hcq
            by_cases hlt : j < n
            · obtain ⟨x, hx⟩ : ∃ x, L2[j]? = some x := ⟨_, List.getElem?_eq_getElem (by rw [← HNn.out]; exact hlt)⟩
              obtain ⟨LA, LB, hsplit⟩ := List.append_of_mem (List.mem_of_getElem? hx)
              have HRx := Lib.hid (show RF w10 R S top (LA ++ x :: LB) by rw [← hsplit]; exact HK10.out.r)
              have hx1 := HX1.out j x hx
              obtain ⟨gm, cap', e, _, _, _, _, y0, y1, _, y3, _⟩ := HK10.out.m.cells (k := j) (x := ct x) (by rw [List.getElem?_map, hx]; rfl)
              rw [HVm.out, List.length_map, ← HNn.out] at e
              obtain ⟨rfl, rfl⟩ : am = some ⟨gm, 0, none⟩ ∧ cm = cap' := by simpa using e
              have HVa := Lib.hid (show ∀ W, Ch [] w10 W → Calls Try.prog 24 #[.pointer (some ⟨R, 0, none⟩), .int .i64 x.k] W fun r w' => r = .returned (.int .i64 (x.n : Int)) ∧ Ch [] W w' from fun W hW => value_in (HRx.out.quiet hW))
              have HVb := Lib.hid (show ∀ W, Ch [] w10 W → Calls Try.prog 25 #[.pointer (some ⟨R, 0, none⟩), .int .i64 x.k] W fun r w' => r = .returned (.bool x.s) ∧ Ch [] W w' from fun W hW => stuck_in (HRx.out.quiet hW))
              obtain ⟨xk, xb, xn, xs⟩ := x
              simp only [ct] at hx1 y0 y1 y3 HVa HVb
              obtain ⟨G, f, hf1, hf2⟩ := k_class w10
              have hx1' : ∀ g : G, (f g).cell? ⟨g1, j, none⟩ = some (.int .i64 xk) := fun g => ((hf1 g).cell (p := ⟨g1, j, none⟩) (cell_lt hx1) (by simp)).trans hx1
              have hy0' : ∀ g : G, (f g).cell? ⟨gm, j * 4, none⟩ = some (.int .i64 xk) := fun g => ((hf1 g).cell (p := ⟨gm, j * 4, none⟩) (cell_lt y0) (by simp)).trans y0
              have hy1' : ∀ g : G, (f g).cell? ⟨gm, j * 4 + 1, none⟩ = some (.int .i64 (xn : Int)) := fun g => ((hf1 g).cell (p := ⟨gm, j * 4 + 1, none⟩) (cell_lt y1) (by simp)).trans y1
              have hy3' : ∀ g : G, (f g).cell? ⟨gm, j * 4 + 1 + 2, none⟩ = some (.bool xs) := fun g => ((hf1 g).cell (p := ⟨gm, j * 4 + 3, none⟩) (cell_lt y3) (by simp)).trans y3
              have hne7 : Nonempty G := ⟨(hf2 w10 (Ch.refl _ _)).choose⟩
              have HF1 := Lib.hid hf1
              have HF2 := Lib.hid hf2
              have HQ := HCq.out
              have hb0 : (0 : Int) ≤ (j : Int) := by omega
              have hb1 : (j : Int) < (n : Int) := by omega
              have h64 := H64.out
              clear hf1 hf2 hx hsplit hx1 e y0 y1 y3
              go_wp2_with fail
              refine k_region f (by kernel_rfl) (by kernel_rfl) (HF2.out _ HQ.drew) ?_
              repeat (go_big_quiet_step (first
                | (with_reducible refine (HVa.out _ (HF1.out _)).mono ?_; rintro r w' ⟨rfl, hcw⟩; exact ⟨rfl, HF2.out w' ((HF1.out _).trans hcw)⟩)
                | (with_reducible refine (HVb.out _ (HF1.out _)).mono ?_; rintro r w' ⟨rfl, hcw⟩; exact ⟨rfl, HF2.out w' ((HF1.out _).trans hcw)⟩)))
              refine wpQuiet_nil ?_
              rintro _ ⟨gz, rfl⟩
              have HZ := Lib.hid (HF1.out gz)
              generalize f gz = wz at *
              clear hx1' hy0' hy1' hy3' hne7 HQ
              go_wp2_with fail
              go_roundw
              case rel => exact ⟨j + 1, by omega, by go_num, HZ.out⟩
              case measure => simp [intOf]; omega
            · obtain rfl : j = n := by omega
              have HK11 := Lib.hid (HK10.out.quiet HCq.out)
              rcases ct_or (L2.map ct) a2 with ⟨CA, cn, cs', CB, hC, hCA⟩ | hno
              · have HFi := Lib.hid (rfind_in (v := vm2) (show RK _ T vm2 top (CA ++ (a2, cn, cs') :: CB) by rw [← hC]; exact HK11.out.m) hCA (by rw [← hC]; exact HK11.out.len))
                rw [HVm.out] at HFi
                have hneg : decide ((CA.length : Int) < 0) = false := by simp
                generalize CA.length = ca at *
                clear hC hCA
                go_wp2_with fail
                with_reducible refine HFi.out.mono ?_
                rintro e w12 ⟨rfl, rfl⟩
                go_wp2_with fail
                go_roundw
                case rel => exact ⟨i + 1, vm2, L2, by omega, by omega, by go_num, HVm.out, HK11.out⟩
                case measure => simp [intOf]; omega
              · have HFi := Lib.hid (rfind_not HK11.out.m hno HK11.out.len)
                rw [HVm.out] at HFi
                have HNf := Lib.hid (show ∀ e ∈ L2, e.k ≠ a2 from fun e he e1 => hno (ct e) (List.mem_map.2 ⟨e, he, rfl⟩) e1)
                have HNo := Lib.hid (find_not HK11.out.r HK2.out HNf.out)
                clear hno
                go_wp2_with fail
                with_reducible refine HFi.out.mono ?_
                rintro e w12 ⟨rfl, rfl⟩
                go_wp2_with fail
                with_reducible refine (value_not HNo.out).mono ?_
                rintro e w13 ⟨rfl, hc13⟩
                have HK13 := Lib.hid (HK11.out.quiet hc13)
                clear hc13
                go_wp2_with fail
                with_reducible refine (stuck_not (find_not HK13.out.r HK2.out HNf.out)).mono ?_
                rintro e w14 ⟨rfl, hc14⟩
                have HK14 := Lib.hid (HK13.out.quiet hc14)
                clear hc14
                go_wp2_with fail
                go_roundw
                case rel => exact ⟨i + 1, vm2, L2, by omega, by omega, by go_num, HVm.out, HK14.out⟩
                case measure => simp [intOf]; omega
      · have hd1 : decide ((i : Int) < (len : Int)) = false := by simpa using h1
        go_wp2_with fail
        with_reducible refine (known_any _).mono ?_
        rintro e w5 ⟨rfl, hc5⟩
        have HC5 := Lib.hid (HK.out.c.trans hc5)
        clear hc5
        go_wp2
        go_ret
        exact ⟨rfl, HC5.out.below _ (by simp) (Nat.le_refl _)⟩
      · have hd1 : decide ((i : Int) < (len : Int)) = true := by simpa using h1
        have hd2 : decide ((i : Int) < 120) = false := by simp; omega
        go_wp2_with fail
        with_reducible refine (known_any _).mono ?_
        rintro e w5 ⟨rfl, hc5⟩
        have HC5 := Lib.hid (HK.out.c.trans hc5)
        clear hc5
        go_wp2
        go_ret
        exact ⟨rfl, HC5.out.below _ (by simp) (Nat.le_refl _)⟩
end Go.Proofs.Ytbjlkmmijdhgoaa

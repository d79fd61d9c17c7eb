/-
  The law CountNames, walked.
-/
import Derived.Test.YtbjlkmmijdhgoaaCSF
import Derived.Test.YtbjlkmmijdhgoaaCSG
import Derived.Sort.Walk0
import Derived.Laws.Cover1
namespace Go.Proofs.Ytbjlkmmijdhgoaa
open Go.RowKit cS Go.BigFrame

attribute [local go_sem] Oper.semAt_some

/-- What turned were blocks of the call's own. -/
theorem ch_new {S : List Nat} {a w w' : World} (h : Ch [] a w) (hc : Ch S w w') (hS : ∀ k ∈ S, a.heap.size ≤ k) : Ch [] a w' :=
  ⟨hc.os.trans h.os, hc.tape.trans h.tape, hc.output.trans h.output, Nat.le_trans h.size hc.size, fun k hk hn => (hc.block k (Nat.lt_of_lt_of_le hk h.size) (fun hm => by have := hS k hm; omega)).trans (h.block k hk hn)⟩

/-- The worlds of a class, by a name that says no more of them. -/
theorem world_class (w : World) : ∃ (G : Type) (f : G → World), (∀ g, Ch [] w (f g)) ∧ ∀ W, Ch [] w W → ∃ g, W = f g := ⟨{W // Ch [] w W}, Subtype.val, fun g => g.property, fun W h => ⟨⟨W, h⟩, rfl⟩⟩
/-- A region that draws its order, whose operations only read and whose callees leave a world of a class: one walk, in the order of the text, over the worlds of the class. -/
theorem wp_region_class {P : Program} {G : Type} (f : G → World) {id : Nat} {Q : Exit → Act → World → Prop} {a : Act} {w : World} {l : List Oper} (hm : P.follows .mixedOrders = true) (hB : Region.lexB .any l.toArray = true) (hS : ∃ g, w.drew = f g)
    (h : wpQuiet P l.toArray (fun w' => ∃ g, w' = f g) (fun a' => ∀ w', (∃ g, w' = f g) → Q .normal a' w') l a) : (Code.region id l.toArray true).wp P Q a w :=
  wp_region_quiet (C := fun w' => ∃ g, w' = f g) hm hB hS (by simpa using h)

set_option maxRecDepth 4000 in
set_option maxHeartbeats 4000000 in
theorem names_law (a0 : Int) (ab : Option Addr) (cap : Nat) (w : World) (ks0 : List K) (hl : ks0.length ≤ cap) (hcap : cap ≤ 9223372036854775807) (hw : ∀ k ∈ ks0, wfK k) (ha : KAt w ab ks0) :
    Calls Try.prog 7 #[.int .i64 a0, .slice ab ks0.length cap] w fun e w' => e = .returned (.bool true) ∧ Below w.heap.size w w' := by
  have u0 : 0 ≤ IntKind.u64.wrap a0 ∧ IntKind.u64.wrap a0 < 18446744073709551616 := by rw [IntKind.wrap_u64]; omega
  generalize hg0 : IntKind.u64.wrap a0 = U0 at u0
  obtain ⟨u00, u01⟩ := u0
  obtain ⟨top, hr0, hr1, hr2⟩ : ∃ top : Nat, 1 + U0 % 65535 = (top : Int) ∧ 1 ≤ top ∧ top ≤ 65535 := ⟨(1 + U0 % 65535).toNat, by omega⟩
  -- the first 80
  obtain ⟨ks, hks⟩ : ∃ ks, ks = ks0.take 80 := ⟨_, rfl⟩
  obtain ⟨len, hlen⟩ : ∃ len, len = ks0.length := ⟨_, rfl⟩
  obtain ⟨m, hm⟩ : ∃ m, m = ks.length := ⟨_, rfl⟩
  have hmin : min (len : Int) 80 = (m : Int) := by rw [hm, hks, List.length_take, hlen]; omega
  have hml : m ≤ 80 := by rw [hm, hks, List.length_take]; omega
  have hmc : (m : Int) ≤ (cap : Int) := by rw [hm, hks, List.length_take]; omega
  have HA := Lib.hid (hks ▸ ha.take 80)
  have HW := Lib.hid (show ∀ k ∈ ks, wfK k by rw [hks]; exact fun k hk => hw k (List.mem_of_mem_take hk))
  have HM := Lib.hid hm
  obtain ⟨S, hS⟩ : ∃ S, w.heap.size = S := ⟨_, rfl⟩
  have HS := Lib.hid hS
  obtain ⟨Ra, hRa⟩ : ∃ Ra, Ra = S + 1 := ⟨_, rfl⟩
  have HNew := Lib.hid (refs_new top w S hS hr1 hr2)
  rw [← hRa] at HNew
  have HRa := Lib.hid hRa
  rw [← hlen]
  clear hks hlen hm hS ha hw hRa
  go_enter Try.func7, Try.ntmps7
  go_wp2_with fail
  clear hr0 hmin hg0 hmc
  with_reducible refine HNew.out.mono ?_
  rintro e w1 ⟨rfl, ha1, hc1, hz1⟩
  obtain ⟨Mb, hMb⟩ : ∃ Mb, w1.heap.size = Mb := ⟨_, rfl⟩
  obtain ⟨Rb, hRb⟩ : ∃ Rb, Rb = Mb + 1 := ⟨_, rfl⟩
  have HNew2 := Lib.hid (refs_new top w1 Mb hMb hr1 hr2)
  rw [← hRb] at HNew2
  have HF := Lib.hid ha1
  have HC1 := Lib.hid hc1
  have HN := Lib.hid (show Ra = S + 1 ∧ Mb = S + 2 ∧ Rb = S + 3 by rw [HRa.out]; omega)
  clear ha1 hc1 hz1 hMb hRb HNew HRa
  go_wp2_with fail
  with_reducible refine HNew2.out.mono ?_
  rintro e w2 ⟨rfl, hb2, hc2, hz2⟩
  have HFa := Lib.hid (HF.out.quiet hc2)
  have HFb := Lib.hid hb2
  have HC2 := Lib.hid (HC1.out.trans hc2)
  have HZ2 := Lib.hid (show w2.heap.size = S + 4 by have := HN.out; omega)
  have hKA := HA.out.below HC2.out
  have hn := HN.out
  have HHold := Lib.hid (hold_any HFa.out ab cap ks HW.out hKA (fun hne b off e1 => by
    have hbl := HA.out.block hne e1
    have hs := HS.out
    simp
    omega) (by rw [← HM.out]; unfold maxLen; omega))
  rw [← HM.out] at HHold
  simp only [List.map_nil] at HHold
  clear hb2 hc2 hz2 hKA hn HF HC1 HNew2
  go_wp2_with fail
  with_reducible refine HHold.out.mono ?_
  rintro e w3 ⟨rfl, La, hr3⟩
  obtain ⟨E, hE⟩ : ∃ E, E = (holdsC top ([] : List (Ct K)) ks).2 := ⟨_, rfl⟩
  rw [← hE]
  have HE := Lib.hid hE
  obtain ⟨T, hT⟩ : ∃ T, T = w3.heap.size := ⟨_, rfl⟩
  have HD := Lib.hid (show S < T ∧ Rb < T ∧ S ≠ Mb ∧ Ra ≠ Mb ∧ Ra < T ∧ ∀ e ∈ La, e.b < T ∧ e.b ≠ Mb by
    have hn := HN.out
    have hz := HZ2.out
    have hs := hr3.ch.size
    refine ⟨by omega, by omega, by omega, by omega, by omega, fun e he => ⟨by rw [hT]; exact (hr3.rf.cnt e he).1.lt, fun e1 => ?_⟩⟩
    rcases hr3.bl e.b (List.mem_map.2 ⟨e, he, rfl⟩) with h1 | h1
    · simp at h1
    · omega)
  have HFa3 := Lib.hid hr3.rf
  have HCa := Lib.hid hr3.c
  have HFb3 := Lib.hid (HFb.out.ch hr3.ch (by have := HN.out; simp; omega) (by have := HN.out; simp; omega) (by simp))
  have HC3 := Lib.hid (ch_new HC2.out hr3.ch (by have := HS.out; simp; omega))
  have HT := Lib.hid hT
  clear hr3 hE hT HFa HFb HC2 HZ2 HHold
  go_wp2_with fail
  go_loopw [10, 11] (fun wv iv wr => ∃ (i : Nat) (Lb : List Ent), i ≤ m ∧ iv = .int .i64 (i : Int) ∧ wv = .int .i64 (holdsC top ([] : List (Ct K)) (ks.take i)).2 ∧ HR w3 wr Rb Mb top [] (holdsC top ([] : List (Ct K)) (ks.take i)).1 Lb ∧ RF wr Ra S top La ∧ Ch [] w wr) (fun _ iv _ => m - (intOf iv).toNat)
  case atStart => exact ⟨0, [], Nat.zero_le _, rfl, by simp [holdsC], ⟨by simp [holdsC], HFb3.out, Ch.refl _ _, fun x hx => .inl hx⟩, HFa3.out, HC3.out⟩
  case round =>
    obtain ⟨i, Lb, hi, rfl, rfl, hrb, hra, hcw⟩ := hrel
    have HRb := Lib.hid hrb
    have HRa := Lib.hid hra
    have HCw := Lib.hid hcw
    obtain ⟨Ei, hEi⟩ : ∃ Ei, Ei = (holdsC top ([] : List (Ct K)) (ks.take i)).2 := ⟨_, rfl⟩
    rw [← hEi]
    have HEi := Lib.hid hEi
    clear hrb hra hcw hEi HFa3 HFb3 HC3
    have HX := Lib.hid (show (i < m ∧ Ei = 0) ∨ (i < m ∧ Ei ≠ 0) ∨ i = m by omega)
    rcases HX.out with ⟨h1, h2⟩ | ⟨h1, h2⟩ | h1
    · have hd1 : decide ((i : Int) < (m : Int)) = true := by simpa using h1
      have hd2 : (Ei == 0) = true := by simpa using h2
      obtain ⟨k, hki⟩ : ∃ k, ks[i]? = some k := ⟨_, List.getElem?_eq_getElem (by rw [← HM.out]; exact h1)⟩
      have hne : ks ≠ [] := by intro e; rw [e] at hki; simp at hki
      obtain ⟨b, off, rfl, hcells⟩ := (HA.out.below HCw.out).resolve_left hne
      have hx := hcells i k hki
      have hsn := holdsC_snoc (top := top) ([] : List (Ct K)) (ks.take i) k (by rw [← HEi.out]; exact h2)
      have htake : ks.take (i + 1) = ks.take i ++ [k] := by rw [List.take_add_one, hki]; rfl
      rw [← htake] at hsn
      have hb0 : (0 : Int) ≤ (i : Int) := by omega
      have hb1 : (i : Int) < (m : Int) := by omega
      have hc4 : Ch [] wr (wr.alloc (.cells #[kv k] 9)) := (Ch.refl _ _).alloc _
      have hblk : wr.heap.size ∉ Mb :: blocks Lb := by
        intro hm2
        rcases List.mem_cons.1 hm2 with e1 | hm2
        · have := HRb.out.rf.own; obtain ⟨D, ho, _⟩ := this; have := ho.lt; omega
        · obtain ⟨x, hx1, hx2⟩ := List.mem_map.1 hm2
          have := (HRb.out.rf.cnt x hx1).1.lt
          omega
      have hho := hold_this (HRb.out.rf.quiet hc4) (HW.out k (List.mem_of_getElem? hki)) wr.heap.size 1 (cell_new wr (kv k) 9).1 hblk
      rw [HRb.out.c, ← hsn] at hho
      have HHo := Lib.hid hho
      have HR4 := Lib.hid (HRb.out.quiet hc4)
      have HA4 := Lib.hid (HRa.out.quiet hc4)
      have HC4 := Lib.hid (HCw.out.trans hc4)
      have H2 := Lib.hid h2
      clear hcells hsn htake hc4 hblk hho h2 HRb HRa HCw hne
      go_wp2_with fail
      with_reducible refine HHo.out.mono ?_
      rintro e w5 ⟨rfl, Lb', hr5⟩
      have hbl : ∀ x ∈ blocks Lb, T ≤ x := fun x hx => by
        rcases HR4.out.bl x hx with h3 | h3
        · simp at h3
        · rw [HT.out]; exact h3
      have HRb5 := Lib.hid (HR4.out.step hr5.c hr5.rf hr5.ch hr5.bl)
      have HRa5 := Lib.hid (HA4.out.ch hr5.ch
        (fun hm2 => by have hd := HD.out; rcases List.mem_cons.1 hm2 with e1 | hm2; omega; have := hbl _ hm2; omega)
        (fun hm2 => by have hd := HD.out; rcases List.mem_cons.1 hm2 with e1 | hm2; omega; have := hbl _ hm2; omega)
        (fun x hx3 hm2 => by have hd := HD.out.2.2.2.2.2 x hx3; rcases List.mem_cons.1 hm2 with e1 | hm2; exact hd.2 e1; have := hbl _ hm2; omega))
      have HCw5 := Lib.hid (ch_new HC4.out hr5.ch (fun x hm2 => by
        have hs := HS.out
        have hd := HD.out
        have hn := HN.out
        rcases List.mem_cons.1 hm2 with e1 | hm2
        · omega
        · have := hbl _ hm2; omega))
      clear hr5 hbl hx HR4 HA4 HC4
      go_wp2_with fail
      go_roundw
      case rel => exact ⟨i + 1, Lb', by omega, by go_num, rfl, HRb5.out, HRa5.out, HCw5.out⟩
      case measure => simp [intOf]; omega
    · have hd1 : decide ((i : Int) < (m : Int)) = true := by simpa using h1
      have hd2 : (Ei == 0) = false := by simpa using h2
      have HFin := Lib.hid (show holdsC top ([] : List (Ct K)) ks = holdsC top ([] : List (Ct K)) (ks.take i) by
        have := holdsC_stop ([] : List (Ct K)) (ks.take i) (ks.drop i) (top := top) (by rw [← HEi.out]; exact h2)
        rwa [List.take_append_drop] at this)
      obtain rfl : Ei = E := by rw [HEi.out, HE.out, HFin.out]
      have hlab : La.map ct = Lb.map ct := by rw [HCa.out, HRb.out.c, ← HFin.out]
      have HLab := Lib.hid hlab
      clear hlab
      go_wp2_with fail
      with_reducible refine (keys_any HRa.out).mono ?_
      rintro e w6 ⟨g1, cap1, ss, rfl, hp1, hs1, hrow1, hb1⟩
      have hc6 := Ch.of_below (S := []) hb1
      have HFa6 := Lib.hid (HRa.out.quiet hc6)
      have HFb6 := Lib.hid (HRb.out.rf.quiet hc6)
      have HC6 := Lib.hid (HCw.out.trans hc6)
      have HP1 := Lib.hid hp1
      have HS1 := Lib.hid hs1
      have HRow1 := Lib.hid hrow1
      clear hp1 hs1 hrow1 hb1 hc6 HRb HRa HCw
      go_wp2_with fail
      with_reducible refine (keys_any HFb6.out).mono ?_
      rintro e w7 ⟨g2, cap2, ss2, rfl, hp2, hs2, hrow2, hb2⟩
      have hc7 := Ch.of_below (S := []) hb2
      obtain rfl : ss2 = ss := by
        refine List.Perm.eq_of_pairwise (le := fun a b => a ≤ b) (fun a b _ _ h1 h2 => List.le_antisymm h1 h2) hs2 HS1.out ?_
        have e1 : La.map (·.k) = Lb.map (·.k) := by
          have := congrArg (List.map Prod.fst) HLab.out
          simpa [List.map_map, Function.comp_def, ct] using this
        exact (hp2.trans (by rw [e1])).trans HP1.out.symm
      obtain ⟨n, hn⟩ : ∃ n, n = ss2.length := ⟨_, rfl⟩
      rw [← hn]
      have HFa7 := Lib.hid (HFa6.out.quiet hc7)
      have HFb7 := Lib.hid (HFb6.out.quiet hc7)
      have HC7 := Lib.hid (HC6.out.trans hc7)
      have HX1 := Lib.hid (show ∀ j k, ss2[j]? = some k → w7.cell? ⟨g1, j, none⟩ = some (kv k) from fun j k hj => by
        have hjl := (List.getElem?_eq_some_iff.1 hj).1
        rw [World.ownsRow.cellAt (own_ch HRow1.out hc7 (by simp)) j (by omega)]
        simp [hj])
      have HX2 := Lib.hid (show ∀ j k, ss2[j]? = some k → w7.cell? ⟨g2, j, none⟩ = some (kv k) from fun j k hj => by
        have hjl := (List.getElem?_eq_some_iff.1 hj).1
        rw [World.ownsRow.cellAt hrow2 j (by omega)]
        simp [hj])
      have hnl : n = La.length := by rw [hn, HP1.out.length_eq]; simp
      have h64 : n ≤ 64 := by rw [hnl]; exact HFa7.out.hl
      have hd3 : decide ((64 : Int) < (n : Int)) = false := by simp; omega
      have hz : n = 0 → m = 0 := fun h0 => by
        have e1 : (holdsC top ([] : List (Ct K)) ks).1.length = 0 := by rw [← HCa.out, List.length_map, ← hnl, h0]
        by_cases hke : ks = []
        · rw [HM.out, hke]; rfl
        · have := holdsC_some (top := top) hke; omega
      have HNd := Lib.hid (show ss2.Nodup by obtain ⟨D, _, hv⟩ := HFa7.out.own; exact HP1.out.nodup_iff.2 hv.nd)
      have HNn := Lib.hid hn
      have H64 := Lib.hid h64
      have hcase : (n = 0 ∧ m = 0) ∨ (n ≠ 0 ∧ ((n : Int) == 0) = false) := by
        by_cases h0 : n = 0
        · exact .inl ⟨h0, hz h0⟩
        · exact .inr ⟨h0, by simpa using h0⟩
      clear hp2 hs2 hrow2 hb2 hc7 hn hnl h64 hz HRow1 HFa6 HFb6 HC6
      rcases hcase with ⟨rfl, rfl⟩ | ⟨hn0, hd4⟩
      · go_wp2_with fail
        refine wp_loop_rounds 1 ?_
        rw [rounds_succ]
        go_wp2_with fail
        with_reducible refine (known_any _).mono ?_
        rintro e w9 ⟨rfl, hc9⟩
        have HC9 := Lib.hid (HC7.out.trans hc9)
        clear hc9
        go_wp2
        go_ret
        exact ⟨rfl, HC9.out.below _ (by simp) (Nat.le_refl _)⟩
      · go_wp2_with fail
        go_loopw [14] (fun jv wq => ∃ j : Nat, j ≤ n ∧ jv = .int .i64 (j : Int) ∧ Ch [] w7 wq) (fun jv _ => n - (intOf jv).toNat)
        case atStart => exact ⟨0, Nat.zero_le _, rfl, Ch.refl _ _⟩
        case round =>
          obtain ⟨j, hj, rfl, hcq⟩ := hrel
          have HCq := Lib.hid hcq
          clear hcq
          by_cases hlt : j < n
          · obtain ⟨k, hk⟩ : ∃ k, ss2[j]? = some k := ⟨_, List.getElem?_eq_getElem (by rw [← HNn.out]; exact hlt)⟩
            obtain ⟨e0, he0, rfl⟩ := List.mem_map.1 (HP1.out.mem_iff.1 (List.mem_of_getElem? hk))
            obtain ⟨A, B, rfl⟩ := List.append_of_mem he0
            have hsp : ∃ A' B' e1, Lb = A' ++ e1 :: B' ∧ e1.k = e0.k ∧ e1.n = e0.n := by
              have := HLab.out
              rw [List.map_append, List.map_cons] at this
              obtain ⟨A', R', e1, _, e2⟩ := List.map_eq_append_iff.1 this.symm
              obtain ⟨x, B', e3, e4, _⟩ := List.map_eq_cons_iff.1 e2
              have e5 : x.k = e0.k ∧ x.n = e0.n ∧ x.s = e0.s := by simpa [ct] using e4
              exact ⟨A', B', x, by rw [e1, e3], e5.1, e5.2.1⟩
            obtain ⟨A', B', e1, rfl, hk1, hn1⟩ := hsp
            have HVa := Lib.hid (show ∀ W, Ch [] w7 W → Calls Try.prog 30 #[.pointer (some ⟨Ra, 0, none⟩), kv e0.k] W fun r w' => r = .returned (.int .i64 (e0.n : Int)) ∧ Ch [] W w' from fun W hW => value_in (HFa7.out.quiet hW))
            have HVb := Lib.hid (show ∀ W, Ch [] w7 W → Calls Try.prog 30 #[.pointer (some ⟨Rb, 0, none⟩), kv e0.k] W fun r w' => r = .returned (.int .i64 (e0.n : Int)) ∧ Ch [] W w' from fun W hW => by
              have := value_in (HFb7.out.quiet hW)
              rw [hk1, hn1] at this
              exact this)
            have hx1 := HX1.out j _ hk
            have hx2 := HX2.out j _ hk
            have hpos : decide ((e0.n : Int) < 1) = false := by have := (HFa7.out.cnt e0 (by simp)).2.1; simp; omega
            have hb0 : (0 : Int) ≤ (j : Int) := by omega
            have hb1 : (j : Int) < (n : Int) := by omega
            clear hk1 hn1 he0
            cases j with
            | zero =>
              obtain ⟨G, f, hf1, hf2⟩ := world_class w7
              have hx1' : ∀ g : G, (f g).cell? ⟨g1, 0, none⟩ = some (kv e0.k) := fun g => ((hf1 g).cell (p := ⟨g1, 0, none⟩) (cell_lt hx1) (by simp)).trans hx1
              have hx2' : ∀ g : G, (f g).cell? ⟨g2, 0, none⟩ = some (kv e0.k) := fun g => ((hf1 g).cell (p := ⟨g2, 0, none⟩) (cell_lt hx2) (by simp)).trans hx2
              have hne7 : Nonempty G := ⟨(hf2 w7 (Ch.refl _ _)).choose⟩
              have HF1 := Lib.hid hf1
              have HF2 := Lib.hid hf2
              clear hf1 hf2
              have HQ := HCq.out
              have hb1 : (0 : Int) < (n : Int) := by omega
              clear hx1 hx2 hb0
              go_wp2_with fail
              refine wp_region_class f (by kernel_rfl) (by kernel_rfl) (HF2.out _ HQ.drew) ?_
              repeat (go_big_quiet_step (first
                | (with_reducible refine (HVa.out _ (HF1.out _)).mono ?_; rintro r w' ⟨rfl, hcw⟩; exact ⟨rfl, HF2.out w' ((HF1.out _).trans hcw)⟩)
                | (with_reducible refine (HVb.out _ (HF1.out _)).mono ?_; rintro r w' ⟨rfl, hcw⟩; exact ⟨rfl, HF2.out w' ((HF1.out _).trans hcw)⟩)))
              refine wpQuiet_nil ?_
              rintro _ ⟨gz, rfl⟩

              have HZ := Lib.hid (HF1.out gz)
              generalize f gz = wz at *
              clear hx1' hx2' hne7 HQ
              have h64 := H64.out
              go_wp2_with fail
              go_roundw
              case rel => exact ⟨0 + 1, by omega, by go_num, HZ.out⟩
              case measure => simp [intOf]; omega
            | succ j =>
              obtain ⟨kp, hkp⟩ : ∃ kp, ss2[j]? = some kp := ⟨_, List.getElem?_eq_getElem (by rw [← HNn.out]; omega)⟩
              have hx3 := HX1.out j kp hkp
              have hkne : e0.k ≠ kp := fun e2 => by
                have := (List.getElem?_inj (by rw [← HNn.out]; omega) HNd.out).1 (hkp.trans (by rw [← e2]; exact hk.symm))
                omega
              have hkle : kp ≤ e0.k := by
                have h1 := List.getElem?_eq_some_iff.1 hkp
                have h2 := List.getElem?_eq_some_iff.1 hk
                obtain ⟨l1, e1⟩ := h1
                obtain ⟨l2, e2⟩ := h2
                rw [← e1, ← e2]
                exact (List.pairwise_iff_getElem.1 HS1.out) j (j + 1) l1 l2 (by omega)
              have hbl : Op.bytesLess e0.k kp = false := by rw [bytesLess_eq]; simpa using hkle
              have hbe : (e0.k == kp) = false := by simpa using hkne
              clear hkp hkle
              obtain ⟨G, f, hf1, hf2⟩ := world_class w7
              have hx1' : ∀ g : G, (f g).cell? ⟨g1, j + 1, none⟩ = some (kv e0.k) := fun g => ((hf1 g).cell (p := ⟨g1, j + 1, none⟩) (cell_lt hx1) (by simp)).trans hx1
              have hx2' : ∀ g : G, (f g).cell? ⟨g2, j + 1, none⟩ = some (kv e0.k) := fun g => ((hf1 g).cell (p := ⟨g2, j + 1, none⟩) (cell_lt hx2) (by simp)).trans hx2
              have hx3' : ∀ g : G, (f g).cell? ⟨g1, j, none⟩ = some (kv kp) := fun g => ((hf1 g).cell (p := ⟨g1, j, none⟩) (cell_lt hx3) (by simp)).trans hx3
              have hne7 : Nonempty G := ⟨(hf2 w7 (Ch.refl _ _)).choose⟩
              have HF1 := Lib.hid hf1
              have HF2 := Lib.hid hf2
              clear hf1 hf2
              have HQ := HCq.out
              have hb1 : (j : Int) + 1 < (n : Int) := by omega
              have hb0 : (0 : Int) ≤ (j : Int) + 1 := by omega
              have hb2 : (0 : Int) ≤ (j : Int) := by omega
              have hb3 : (j : Int) < (n : Int) := by omega
              have hw1 : IntKind.i64.wrap (((j + 1 : Nat) : Int) - 1) = (j : Int) := by rw [IntKind.wrap_i64]; have := H64.out; omega
              have hw2 : IntKind.i64.wrap (j : Int) = (j : Int) := by rw [IntKind.wrap_i64]; have := H64.out; omega
              have hw3 : IntKind.i64.wrap ((j : Int) + 1 - 1) = (j : Int) := by rw [IntKind.wrap_i64]; have := H64.out; omega
              have hw4 : ((j : Int) + 1 - 1).toNat = j := by omega
              have hw5 : (0 : Int) ≤ (j : Int) + 1 - 1 := by omega
              have hw6 : (j : Int) + 1 - 1 < (n : Int) := by omega
              have hb4 : decide ((0 : Int) < (j : Int) + 1) = true := decide_eq_true (by omega)
              clear hx1 hx2 hx3
              go_wp2_with fail
              refine wp_region_class f (by kernel_rfl) (by kernel_rfl) (HF2.out _ HQ.drew) ?_
              repeat (go_big_quiet_step (first
                | (with_reducible refine (HVa.out _ (HF1.out _)).mono ?_; rintro r w' ⟨rfl, hcw⟩; exact ⟨rfl, HF2.out w' ((HF1.out _).trans hcw)⟩)
                | (with_reducible refine (HVb.out _ (HF1.out _)).mono ?_; rintro r w' ⟨rfl, hcw⟩; exact ⟨rfl, HF2.out w' ((HF1.out _).trans hcw)⟩)))
              refine wpQuiet_nil ?_
              rintro _ ⟨gz, rfl⟩

              have HZ := Lib.hid (HF1.out gz)
              generalize f gz = wz at *
              clear hx1' hx2' hx3' hne7 HQ
              have h64 := H64.out
              go_wp2_with fail
              go_roundw
              case rel => exact ⟨j + 1 + 1, by omega, by go_num, HZ.out⟩
              case measure => simp [intOf]; omega
          · obtain rfl : j = n := by omega
            go_wp2_with fail
            with_reducible refine (known_any _).mono ?_
            rintro e w9 ⟨rfl, hc9⟩
            have HC9 := Lib.hid ((HC7.out.trans HCq.out).trans hc9)
            clear hc9
            go_wp2
            go_ret
            exact ⟨rfl, HC9.out.below _ (by simp) (Nat.le_refl _)⟩
    · subst h1
      have HFin := Lib.hid (show holdsC top ([] : List (Ct K)) ks = holdsC top ([] : List (Ct K)) (ks.take i) by rw [HM.out, List.take_length])
      obtain rfl : Ei = E := by rw [HEi.out, HE.out, HFin.out]
      obtain ⟨m, hm⟩ : ∃ m, m = i := ⟨_, rfl⟩
      rw [← hm] at HM hml hi ⊢
      have hd1 : decide ((m : Int) < (m : Int)) = false := by simp
      clear hm
      have hlab : La.map ct = Lb.map ct := by rw [HCa.out, HRb.out.c, ← HFin.out]
      have HLab := Lib.hid hlab
      clear hlab
      go_wp2_with fail
      with_reducible refine (keys_any HRa.out).mono ?_
      rintro e w6 ⟨g1, cap1, ss, rfl, hp1, hs1, hrow1, hb1⟩
      have hc6 := Ch.of_below (S := []) hb1
      have HFa6 := Lib.hid (HRa.out.quiet hc6)
      have HFb6 := Lib.hid (HRb.out.rf.quiet hc6)
      have HC6 := Lib.hid (HCw.out.trans hc6)
      have HP1 := Lib.hid hp1
      have HS1 := Lib.hid hs1
      have HRow1 := Lib.hid hrow1
      clear hp1 hs1 hrow1 hb1 hc6 HRb HRa HCw
      go_wp2_with fail
      with_reducible refine (keys_any HFb6.out).mono ?_
      rintro e w7 ⟨g2, cap2, ss2, rfl, hp2, hs2, hrow2, hb2⟩
      have hc7 := Ch.of_below (S := []) hb2
      obtain rfl : ss2 = ss := by
        refine List.Perm.eq_of_pairwise (le := fun a b => a ≤ b) (fun a b _ _ h1 h2 => List.le_antisymm h1 h2) hs2 HS1.out ?_
        have e1 : La.map (·.k) = Lb.map (·.k) := by
          have := congrArg (List.map Prod.fst) HLab.out
          simpa [List.map_map, Function.comp_def, ct] using this
        exact (hp2.trans (by rw [e1])).trans HP1.out.symm
      obtain ⟨n, hn⟩ : ∃ n, n = ss2.length := ⟨_, rfl⟩
      rw [← hn]
      have HFa7 := Lib.hid (HFa6.out.quiet hc7)
      have HFb7 := Lib.hid (HFb6.out.quiet hc7)
      have HC7 := Lib.hid (HC6.out.trans hc7)
      have HX1 := Lib.hid (show ∀ j k, ss2[j]? = some k → w7.cell? ⟨g1, j, none⟩ = some (kv k) from fun j k hj => by
        have hjl := (List.getElem?_eq_some_iff.1 hj).1
        rw [World.ownsRow.cellAt (own_ch HRow1.out hc7 (by simp)) j (by omega)]
        simp [hj])
      have HX2 := Lib.hid (show ∀ j k, ss2[j]? = some k → w7.cell? ⟨g2, j, none⟩ = some (kv k) from fun j k hj => by
        have hjl := (List.getElem?_eq_some_iff.1 hj).1
        rw [World.ownsRow.cellAt hrow2 j (by omega)]
        simp [hj])
      have hnl : n = La.length := by rw [hn, HP1.out.length_eq]; simp
      have h64 : n ≤ 64 := by rw [hnl]; exact HFa7.out.hl
      have hd3 : decide ((64 : Int) < (n : Int)) = false := by simp; omega
      have hz : n = 0 → m = 0 := fun h0 => by
        have e1 : (holdsC top ([] : List (Ct K)) ks).1.length = 0 := by rw [← HCa.out, List.length_map, ← hnl, h0]
        by_cases hke : ks = []
        · rw [HM.out, hke]; rfl
        · have := holdsC_some (top := top) hke; omega
      have HNd := Lib.hid (show ss2.Nodup by obtain ⟨D, _, hv⟩ := HFa7.out.own; exact HP1.out.nodup_iff.2 hv.nd)
      have HNn := Lib.hid hn
      have H64 := Lib.hid h64
      have hcase : (n = 0 ∧ m = 0) ∨ (n ≠ 0 ∧ ((n : Int) == 0) = false) := by
        by_cases h0 : n = 0
        · exact .inl ⟨h0, hz h0⟩
        · exact .inr ⟨h0, by simpa using h0⟩
      clear hp2 hs2 hrow2 hb2 hc7 hn hnl h64 hz HRow1 HFa6 HFb6 HC6
      rcases hcase with ⟨rfl, rfl⟩ | ⟨hn0, hd4⟩
      · go_wp2_with fail
        refine wp_loop_rounds 1 ?_
        rw [rounds_succ]
        go_wp2_with fail
        with_reducible refine (known_any _).mono ?_
        rintro e w9 ⟨rfl, hc9⟩
        have HC9 := Lib.hid (HC7.out.trans hc9)
        clear hc9
        go_wp2
        go_ret
        exact ⟨rfl, HC9.out.below _ (by simp) (Nat.le_refl _)⟩
      · go_wp2_with fail
        go_loopw [14] (fun jv wq => ∃ j : Nat, j ≤ n ∧ jv = .int .i64 (j : Int) ∧ Ch [] w7 wq) (fun jv _ => n - (intOf jv).toNat)
        case atStart => exact ⟨0, Nat.zero_le _, rfl, Ch.refl _ _⟩
        case round =>
          obtain ⟨j, hj, rfl, hcq⟩ := hrel
          have HCq := Lib.hid hcq
          clear hcq
          by_cases hlt : j < n
          · obtain ⟨k, hk⟩ : ∃ k, ss2[j]? = some k := ⟨_, List.getElem?_eq_getElem (by rw [← HNn.out]; exact hlt)⟩
            obtain ⟨e0, he0, rfl⟩ := List.mem_map.1 (HP1.out.mem_iff.1 (List.mem_of_getElem? hk))
            obtain ⟨A, B, rfl⟩ := List.append_of_mem he0
            have hsp : ∃ A' B' e1, Lb = A' ++ e1 :: B' ∧ e1.k = e0.k ∧ e1.n = e0.n := by
              have := HLab.out
              rw [List.map_append, List.map_cons] at this
              obtain ⟨A', R', e1, _, e2⟩ := List.map_eq_append_iff.1 this.symm
              obtain ⟨x, B', e3, e4, _⟩ := List.map_eq_cons_iff.1 e2
              have e5 : x.k = e0.k ∧ x.n = e0.n ∧ x.s = e0.s := by simpa [ct] using e4
              exact ⟨A', B', x, by rw [e1, e3], e5.1, e5.2.1⟩
            obtain ⟨A', B', e1, rfl, hk1, hn1⟩ := hsp
            have HVa := Lib.hid (show ∀ W, Ch [] w7 W → Calls Try.prog 30 #[.pointer (some ⟨Ra, 0, none⟩), kv e0.k] W fun r w' => r = .returned (.int .i64 (e0.n : Int)) ∧ Ch [] W w' from fun W hW => value_in (HFa7.out.quiet hW))
            have HVb := Lib.hid (show ∀ W, Ch [] w7 W → Calls Try.prog 30 #[.pointer (some ⟨Rb, 0, none⟩), kv e0.k] W fun r w' => r = .returned (.int .i64 (e0.n : Int)) ∧ Ch [] W w' from fun W hW => by
              have := value_in (HFb7.out.quiet hW)
              rw [hk1, hn1] at this
              exact this)
            have hx1 := HX1.out j _ hk
            have hx2 := HX2.out j _ hk
            have hpos : decide ((e0.n : Int) < 1) = false := by have := (HFa7.out.cnt e0 (by simp)).2.1; simp; omega
            have hb0 : (0 : Int) ≤ (j : Int) := by omega
            have hb1 : (j : Int) < (n : Int) := by omega
            clear hk1 hn1 he0
            cases j with
            | zero =>
              obtain ⟨G, f, hf1, hf2⟩ := world_class w7
              have hx1' : ∀ g : G, (f g).cell? ⟨g1, 0, none⟩ = some (kv e0.k) := fun g => ((hf1 g).cell (p := ⟨g1, 0, none⟩) (cell_lt hx1) (by simp)).trans hx1
              have hx2' : ∀ g : G, (f g).cell? ⟨g2, 0, none⟩ = some (kv e0.k) := fun g => ((hf1 g).cell (p := ⟨g2, 0, none⟩) (cell_lt hx2) (by simp)).trans hx2
              have hne7 : Nonempty G := ⟨(hf2 w7 (Ch.refl _ _)).choose⟩
              have HF1 := Lib.hid hf1
              have HF2 := Lib.hid hf2
              clear hf1 hf2
              have HQ := HCq.out
              have hb1 : (0 : Int) < (n : Int) := by omega
              clear hx1 hx2 hb0
              go_wp2_with fail
              refine wp_region_class f (by kernel_rfl) (by kernel_rfl) (HF2.out _ HQ.drew) ?_
              repeat (go_big_quiet_step (first
                | (with_reducible refine (HVa.out _ (HF1.out _)).mono ?_; rintro r w' ⟨rfl, hcw⟩; exact ⟨rfl, HF2.out w' ((HF1.out _).trans hcw)⟩)
                | (with_reducible refine (HVb.out _ (HF1.out _)).mono ?_; rintro r w' ⟨rfl, hcw⟩; exact ⟨rfl, HF2.out w' ((HF1.out _).trans hcw)⟩)))
              refine wpQuiet_nil ?_
              rintro _ ⟨gz, rfl⟩

              have HZ := Lib.hid (HF1.out gz)
              generalize f gz = wz at *
              clear hx1' hx2' hne7 HQ
              have h64 := H64.out
              go_wp2_with fail
              go_roundw
              case rel => exact ⟨0 + 1, by omega, by go_num, HZ.out⟩
              case measure => simp [intOf]; omega
            | succ j =>
              obtain ⟨kp, hkp⟩ : ∃ kp, ss2[j]? = some kp := ⟨_, List.getElem?_eq_getElem (by rw [← HNn.out]; omega)⟩
              have hx3 := HX1.out j kp hkp
              have hkne : e0.k ≠ kp := fun e2 => by
                have := (List.getElem?_inj (by rw [← HNn.out]; omega) HNd.out).1 (hkp.trans (by rw [← e2]; exact hk.symm))
                omega
              have hkle : kp ≤ e0.k := by
                have h1 := List.getElem?_eq_some_iff.1 hkp
                have h2 := List.getElem?_eq_some_iff.1 hk
                obtain ⟨l1, e1⟩ := h1
                obtain ⟨l2, e2⟩ := h2
                rw [← e1, ← e2]
                exact (List.pairwise_iff_getElem.1 HS1.out) j (j + 1) l1 l2 (by omega)
              have hbl : Op.bytesLess e0.k kp = false := by rw [bytesLess_eq]; simpa using hkle
              have hbe : (e0.k == kp) = false := by simpa using hkne
              clear hkp hkle
              obtain ⟨G, f, hf1, hf2⟩ := world_class w7
              have hx1' : ∀ g : G, (f g).cell? ⟨g1, j + 1, none⟩ = some (kv e0.k) := fun g => ((hf1 g).cell (p := ⟨g1, j + 1, none⟩) (cell_lt hx1) (by simp)).trans hx1
              have hx2' : ∀ g : G, (f g).cell? ⟨g2, j + 1, none⟩ = some (kv e0.k) := fun g => ((hf1 g).cell (p := ⟨g2, j + 1, none⟩) (cell_lt hx2) (by simp)).trans hx2
              have hx3' : ∀ g : G, (f g).cell? ⟨g1, j, none⟩ = some (kv kp) := fun g => ((hf1 g).cell (p := ⟨g1, j, none⟩) (cell_lt hx3) (by simp)).trans hx3
              have hne7 : Nonempty G := ⟨(hf2 w7 (Ch.refl _ _)).choose⟩
              have HF1 := Lib.hid hf1
              have HF2 := Lib.hid hf2
              clear hf1 hf2
              have HQ := HCq.out
              have hb1 : (j : Int) + 1 < (n : Int) := by omega
              have hb0 : (0 : Int) ≤ (j : Int) + 1 := by omega
              have hb2 : (0 : Int) ≤ (j : Int) := by omega
              have hb3 : (j : Int) < (n : Int) := by omega
              have hw1 : IntKind.i64.wrap (((j + 1 : Nat) : Int) - 1) = (j : Int) := by rw [IntKind.wrap_i64]; have := H64.out; omega
              have hw2 : IntKind.i64.wrap (j : Int) = (j : Int) := by rw [IntKind.wrap_i64]; have := H64.out; omega
              have hw3 : IntKind.i64.wrap ((j : Int) + 1 - 1) = (j : Int) := by rw [IntKind.wrap_i64]; have := H64.out; omega
              have hw4 : ((j : Int) + 1 - 1).toNat = j := by omega
              have hw5 : (0 : Int) ≤ (j : Int) + 1 - 1 := by omega
              have hw6 : (j : Int) + 1 - 1 < (n : Int) := by omega
              have hb4 : decide ((0 : Int) < (j : Int) + 1) = true := decide_eq_true (by omega)
              clear hx1 hx2 hx3
              go_wp2_with fail
              refine wp_region_class f (by kernel_rfl) (by kernel_rfl) (HF2.out _ HQ.drew) ?_
              repeat (go_big_quiet_step (first
                | (with_reducible refine (HVa.out _ (HF1.out _)).mono ?_; rintro r w' ⟨rfl, hcw⟩; exact ⟨rfl, HF2.out w' ((HF1.out _).trans hcw)⟩)
                | (with_reducible refine (HVb.out _ (HF1.out _)).mono ?_; rintro r w' ⟨rfl, hcw⟩; exact ⟨rfl, HF2.out w' ((HF1.out _).trans hcw)⟩)))
              refine wpQuiet_nil ?_
              rintro _ ⟨gz, rfl⟩

              have HZ := Lib.hid (HF1.out gz)
              generalize f gz = wz at *
              clear hx1' hx2' hx3' hne7 HQ
              have h64 := H64.out
              go_wp2_with fail
              go_roundw
              case rel => exact ⟨j + 1 + 1, by omega, by go_num, HZ.out⟩
              case measure => simp [intOf]; omega
          · obtain rfl : j = n := by omega
            go_wp2_with fail
            with_reducible refine (known_any _).mono ?_
            rintro e w9 ⟨rfl, hc9⟩
            have HC9 := Lib.hid ((HC7.out.trans HCq.out).trans hc9)
            clear hc9
            go_wp2
            go_ret
            exact ⟨rfl, HC9.out.below _ (by simp) (Nat.le_refl _)⟩

/-- A row of names that came in. -/
def NamesAt (w : World) (a : Option Addr) (len cap : Nat) : Prop := ∃ ks : List K, len = ks.length ∧ ks.length ≤ cap ∧ cap ≤ 9223372036854775807 ∧ (∀ k ∈ ks, wfK k) ∧ KAt w a ks
theorem names_any (a0 : Int) (ab : Option Addr) (len cap : Nat) (w : World) (h : NamesAt w ab len cap) :
    Calls Try.prog 7 #[.int .i64 a0, .slice ab len cap] w fun e w' => e = .returned (.bool true) ∧ Below w.heap.size w w' := by
  obtain ⟨ks, rfl, h1, h2, h3, h4⟩ := h
  exact names_law a0 ab cap w ks h1 h2 h3 h4
end Go.Proofs.Ytbjlkmmijdhgoaa

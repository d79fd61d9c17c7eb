/-
  The law ArenaFinds, walked.
-/
import Derived.Deep.CutBlock
import Derived.Test.YtdompamilgbnnaaAIK
import Derived.Test.YtdompamilgbnnaaArFU
import Derived.Test.YtdompamilgbnnaaArF1
import Derived.Test.YtdompamilgbnnaaArF2
import Derived.Test.YtdompamilgbnnaaArF3
import Derived.Test.YtdompamilgbnnaaArF4
namespace Go.Proofs.Ytdompamilgbnnaa
open Go.RowKit aT

attribute [local go_sem] Oper.semAt_some

/-- What follows, where the walk stands at its name. -/
theorem go_on {P : Program} {c : Code} {Q : Exit → Act → World → Prop} {K : Act → World → Prop} {a : Act} {w : World} (h : ∀ a w, c.wp P Q a w → K a w) (g : c.wp P Q a w) : K a w := h a w g
theorem own_form3 {w : World} {B e s : Nat} {v : Value} {n : Nat} {xs : List Value} (h : w.ownsRow B e s v n xs) : ∃ a cap, v = .slice a n cap := by
  rcases h.2 with ⟨rfl, rfl⟩ | ⟨g, cp, cur, rfl, _⟩
  · exact ⟨_, _, rfl⟩
  · exact ⟨_, _, rfl⟩
theorem fput_some {S : Nat} {w W : World} {R k : Nat} {xs : List (Sl Th)} (h : St S w W R xs) (hf : firstOf xs isFree = some k) (x : Th) :
    Calls Try.prog 23 #[.pointer (some ⟨R, 0, none⟩), .agg #[.int .i64 x.1, .string x.2]] W fun e W' =>
      e = .returned (.tuple #[.agg #[.int .i64 (k : Int), .int .i64 ((at0 xs k).gen : Int)], .int .i64 0]) ∧ St S w W' R (putL xs x) ∧ Ch [S] W W' := by
  have h1 := put_st h x
  obtain ⟨e1, e2, e3⟩ := putA_some hf
  rw [e1, e2, e3] at h1
  exact h1
theorem fput_none {S : Nat} {w W : World} {R : Nat} {xs : List (Sl Th)} (h : St S w W R xs) (hf : firstOf xs isFree = none) (x : Th) :
    Calls Try.prog 23 #[.pointer (some ⟨R, 0, none⟩), .agg #[.int .i64 x.1, .string x.2]] W fun e W' =>
      e = .returned (.tuple #[.agg #[.int .i64 0, .int .i64 0], .int .i64 3]) ∧ St S w W' R xs ∧ Ch [S] W W' := by
  have h1 := put_st h x
  obtain ⟨e1, e2, e3⟩ := putA_none hf
  rw [e1, e2, e3, putL_none hf] at h1
  exact h1
theorem froom {S : Nat} {w W : World} {R : Nat} {xs : List (Sl Th)} (h : St S w W R xs) (hf : firstOf xs isFree = none) :
    Calls Try.prog 24 #[.pointer (some ⟨R, 0, none⟩)] W fun e W' => e = .returned (.int .i64 0) ∧ St S w W' R xs ∧ Ch [] W W' := by
  have h1 := room_st h
  rw [firstOf_none hf] at h1
  exact h1

set_option maxRecDepth 100000 in
set_option maxHeartbeats 8000000 in
theorem finds_law (a0 : Int) (a1 : Option Addr) (len1 cap1 : Nat) (a2 : Option Addr) (len2 cap2 : Nat) (w : World) (_ : len1 ≤ 9223372036854775807) (ha : ThingsAt w a1 len1) (_ : len2 ≤ 9223372036854775807) (hf : IntsAt w a2 len2) :
    Calls Try.prog 5 #[.int .i64 a0, .slice a1 len1 cap1, .slice a2 len2 cap2] w fun e w' => e = .returned (.bool true) ∧ Below w.heap.size w w' := by
  have u0 : 0 ≤ IntKind.u64.wrap a0 ∧ IntKind.u64.wrap a0 < 18446744073709551616 := by rw [IntKind.wrap_u64]; omega
  generalize hg0 : IntKind.u64.wrap a0 = U0 at u0
  obtain ⟨u00, u01⟩ := u0
  obtain ⟨n, hn0, hn1, hn2⟩ : ∃ n : Nat, 1 + U0 % 64 = (n : Int) ∧ 1 ≤ n ∧ n ≤ 64 := ⟨(1 + U0 % 64).toNat, by omega⟩
  obtain ⟨S, hS⟩ : ∃ S, S = w.heap.size := ⟨_, rfl⟩
  have HNew := Lib.hid (new_st n w S hS.symm hn1 hn2)
  rw [← hS]
  have HS := Lib.hid hS
  have HA := Lib.hid ha
  have HFr := Lib.hid hf
  clear hS ha hf
  go_enter Try.func5, Try.ntmps5
  go_wp2_with fail
  with_reducible refine HNew.out.mono ?_
  rintro e w1 ⟨R, rfl, h1⟩
  have H1 := Lib.hid h1
  clear h1 HNew
  go_wp2_with fail
  go_loopw [9, 10, 11, 12] (fun t g b i wr => ∃ (k : Nat) (xs : List (Sl Th)) (es : List Ent) (a9 a10 a11 : Option Addr) (c9 c10 c11 : Nat), k ≤ len1 ∧ k ≤ 60 ∧ es.length ≤ k ∧ i = .int .i64 (k : Int) ∧ t = .slice a9 es.length c9 ∧ g = .slice a10 es.length c10 ∧ b = .slice a11 es.length c11 ∧
      R3 wr (R + 1) (.slice a9 es.length c9) (.slice a10 es.length c10) (.slice a11 es.length c11) es ∧ St S w wr R xs ∧ Inv xs es) (fun _ _ _ i _ => len1 - (intOf i).toNat)
  case atStart => exact ⟨0, _, [], none, none, none, 0, 0, 0, Nat.zero_le _, by decide, Nat.le_refl _, rfl, rfl, rfl, rfl, ⟨World.ownsRow_nil _ _ _ _, World.ownsRow_nil _ _ _ _, World.ownsRow_nil _ _ _ _⟩, H1.out, inv_nil _⟩
  case round =>
    obtain ⟨k, xs, es, a9, a10, a11, c9, c10, c11, hk, hk60, hel, rfl, rfl, rfl, rfl, hr, hst, hinv⟩ := hrel
    have HR := Lib.hid hr
    have HSt := Lib.hid hst
    have HI := Lib.hid hinv
    clear hr hst hinv H1
    by_cases hlt : k < len1 ∧ k < 60
    · obtain ⟨hlt, h60⟩ := hlt
      rcases HA.out with h0 | ⟨b, off, rfl, hth⟩
      · exfalso; omega
      obtain ⟨x, hc0, hc1⟩ := hth k hlt
      have hbs : b < S := by rw [HS.out]; exact cell_lt hc0
      have HX := Lib.hid (And.intro hbs (And.intro hc0 hc1))
      have hc0 := (HSt.out.b.cell (p := ⟨b, off + k * 2, none⟩) hbs).trans hc0
      have hc1 := (HSt.out.b.cell (p := ⟨b, off + k * 2 + 1, none⟩) hbs).trans hc1
      have ht1 : decide ((k : Int) < 60) = true := decide_eq_true (by omega)
      have ht2 : (k : Int) < (len1 : Int) := by omega
      have hb0 : (0 : Int) ≤ (k : Int) := by omega
      have ht : ((k : Int)).toNat = k := rfl
      have HRS := Lib.hid HSt.out.r
      clear hth hbs
      cases hf : firstOf xs isFree with
      | some kk =>
        have HF := Lib.hid hf
        clear hf
        go_wp2_with fail
        with_reducible refine (fput_some HSt.out HF.out x).mono ?_
        rintro e w3 ⟨rfl, h3, hc3⟩
        obtain ⟨gk, hgk⟩ : ∃ gk, gk = (at0 xs kk).gen := ⟨_, rfl⟩
        rw [← hgk]
        have HGk := Lib.hid hgk
        have HR3 := Lib.hid ((HR.out.ch hc3 (by have := HRS.out; simp; omega)).ch (S := []) ((Ch.refl [] w3).alloc (.cells #[.int .i64 (kk : Int), .int .i64 (gk : Int)] 33)) (by simp))
        have H3 := Lib.hid (h3.alloc (.cells #[.int .i64 (kk : Int), .int .i64 (gk : Int)] 33))
        have HB3 := Lib.hid (Box2.new w3 (.int .i64 (kk : Int)) (.int .i64 (gk : Int)) 33)
        clear h3 hc3 hgk hc0 hc1 HSt HR
        go_upto_block 2 with (fail)
        generalize w3.alloc (.cells #[.int .i64 (kk : Int), .int .i64 (gk : Int)] 33) = w4 at *
        refine finds_dup HR3.out HB3.out (fun i e he => by rw [HGk.out]; exact HI.out.new (firstOf_some HF.out).2 i e he) (by omega) ?_
        intro x6 x15 x53 x54 x55 x56 x57 x58 x59 x60 x61 x62 x63 x64 w5 hc5
        have HR5 := Lib.hid (HR3.out.ch hc5 (by simp))
        have H5 := Lib.hid (H3.out.quiet hc5)
        have hb5 := HB3.out.ch hc5 (by simp)
        have HB5 := Lib.hid hb5
        clear hc5 HR3 H3 HB3 hb5
        go_upto_region 17 with (fail)
        have hbR : b < R + 1 := by have := HX.out.1; have := HRS.out; omega
        refine finds_push (k := k) (x := x) HR5.out (Nat.succ_le_of_lt H5.out.z) HB5.out hlt (by omega) hbR
          ((H5.out.b.cell (p := ⟨b, off + k * 2, none⟩) HX.out.1).trans HX.out.2.1) ((H5.out.b.cell (p := ⟨b, off + k * 2 + 1, none⟩) HX.out.1).trans HX.out.2.2) ?_
        intro y9 y10 y11 y65 y66 y67 y68 y69 y70 y71 y72 y73 y74 y75 y76 y77 y78 w6 hr6 hb6
        have H6 := Lib.hid (H5.out.abv hb6)
        have HI6 := Lib.hid (HI.out.put HF.out x)
        rw [← HGk.out] at HI6
        obtain ⟨fs, hfs⟩ : ∃ fs, fs = es ++ [⟨kk, gk, x, false⟩] := ⟨_, rfl⟩
        rw [← hfs] at hr6 HI6
        have hfl : fs.length ≤ k + 1 := by rw [hfs]; simp; omega
        obtain ⟨a9', c9', rfl⟩ := own_form3 hr6.t
        obtain ⟨a10', c10', rfl⟩ := own_form3 hr6.g
        obtain ⟨a11', c11', rfl⟩ := own_form3 hr6.b
        have HR6 := Lib.hid hr6
        clear hr6 hb6 hfs hbR HR5 H5 HB5
        simp only [Exit.then]
        refine go_on (by assumption) ?_
        refine wp_seq_k (fun K1 hK1 => ?_)
        refine finds_free (k := k) (len2 := len2) (a2 := a2) HR6.out H6.out HI6.out ?_ (by omega) ?_
        · intro hk2
          rcases HFr.out with h0 | ⟨b2, off2, rfl, hF⟩
          · omega
          · obtain ⟨F, hF⟩ := hF k hk2
            exact ⟨b2, off2, F, rfl, (H6.out.b.cell (p := ⟨b2, off2 + k, none⟩) (by rw [HS.out]; exact cell_lt hF)).trans hF⟩
        intro z6 z16 z17 z86 z87 z88 z89 z90 z91 z92 z93 z94 z95 z96 z97 z98 z99 z100 z101 z102 z103 z104 z105 z106 z107 z108 z109 z110 z111 z112 z113 z114 z115 z116 z117 z118 z119 z120 z121 z122 z123 z124 z125 z126 z127 z128 z129 z130 z131 ys gs w7 hgl hI7 hr7 hs7
        have HR7 := Lib.hid hr7
        have H7 := Lib.hid hs7
        have HI7 := Lib.hid hI7
        rw [← hgl] at HR7 ⊢
        have hgl2 : gs.length ≤ k + 1 := by omega
        have HGl := Lib.hid hgl2
        clear hr7 hs7 hI7 hgl hgl2 hfl
        go_upto_block 4 with (fail)
        refine finds_each HR7.out H7.out HI7.out (by have := HGl.out; omega) ?_
        intro v6 v18 v19 v20 v132 v133 v134 v135 v136 v137 v138 v139 v140 v141 v142 v143 v144 v145 v146 v147 v148 v149 v150 v151 v152 v153 v154 v155 v156 v157 v158 v159 v160 v161 v162 v163 v164 v165 v166 v167 v168 v169 v170 v171 v172 v173 w8 hr8 hs8
        have HR8 := Lib.hid hr8
        have H8 := Lib.hid hs8
        clear hr8 hs8
        go_wp2_with fail
        go_roundw
        case rel => exact ⟨k + 1, ys, gs, _, _, _, _, _, _, by omega, by omega, HGl.out, by go_num, rfl, rfl, rfl, HR8.out, H8.out, HI7.out⟩
        case measure => simp [intOf]; omega
      | none =>
        have HF := Lib.hid hf
        clear hf
        go_wp2_with fail
        with_reducible refine (fput_none HSt.out HF.out x).mono ?_
        rintro e w3 ⟨rfl, h3, hc3⟩
        have HR3 := Lib.hid ((HR.out.ch hc3 (by have := HRS.out; simp; omega)).ch (S := []) ((Ch.refl [] w3).alloc (.cells #[.int .i64 0, .int .i64 0] 33)) (by simp))
        have H3 := Lib.hid (h3.alloc (.cells #[.int .i64 0, .int .i64 0] 33))
        clear h3 hc3 hc0 hc1 HSt HR
        go_wp2_with fail
        with_reducible refine (froom H3.out HF.out).mono ?_
        rintro e w6 ⟨rfl, h6, hc6⟩
        have HR6 := Lib.hid (HR3.out.ch hc6 (by simp))
        have H6 := Lib.hid h6
        clear h6 hc6 HR3 H3
        go_upto_if 85 with (fail)
        refine wp_cond (t := false) rfl ?_
        simp only [Bool.false_eq_true, if_false]
        refine wp_skip ?_
        simp only [Exit.then]
        refine go_on (by assumption) ?_
        refine wp_seq_k (fun K1 hK1 => ?_)
        refine finds_free (k := k) (len2 := len2) (a2 := a2) HR6.out H6.out HI.out ?_ (by omega) ?_
        · intro hk2
          rcases HFr.out with h0 | ⟨b2, off2, rfl, hF⟩
          · omega
          · obtain ⟨F, hF⟩ := hF k hk2
            exact ⟨b2, off2, F, rfl, (H6.out.b.cell (p := ⟨b2, off2 + k, none⟩) (by rw [HS.out]; exact cell_lt hF)).trans hF⟩
        intro z6 z16 z17 z86 z87 z88 z89 z90 z91 z92 z93 z94 z95 z96 z97 z98 z99 z100 z101 z102 z103 z104 z105 z106 z107 z108 z109 z110 z111 z112 z113 z114 z115 z116 z117 z118 z119 z120 z121 z122 z123 z124 z125 z126 z127 z128 z129 z130 z131 ys gs w7 hgl hI7 hr7 hs7
        have HR7 := Lib.hid hr7
        have H7 := Lib.hid hs7
        have HI7 := Lib.hid hI7
        rw [← hgl] at HR7 ⊢
        have hgl2 : gs.length ≤ k + 1 := by omega
        have HGl := Lib.hid hgl2
        clear hr7 hs7 hI7 hgl hgl2
        go_upto_block 4 with (fail)
        refine finds_each HR7.out H7.out HI7.out (by have := HGl.out; omega) ?_
        intro v6 v18 v19 v20 v132 v133 v134 v135 v136 v137 v138 v139 v140 v141 v142 v143 v144 v145 v146 v147 v148 v149 v150 v151 v152 v153 v154 v155 v156 v157 v158 v159 v160 v161 v162 v163 v164 v165 v166 v167 v168 v169 v170 v171 v172 v173 w8 hr8 hs8
        have HR8 := Lib.hid hr8
        have H8 := Lib.hid hs8
        clear hr8 hs8
        go_wp2_with fail
        go_roundw
        case rel => exact ⟨k + 1, ys, gs, _, _, _, _, _, _, by omega, by omega, HGl.out, by go_num, rfl, rfl, rfl, HR8.out, H8.out, HI7.out⟩
        case measure => simp [intOf]; omega
    · have hcs : (k < len1 ∧ ¬ k < 60) ∨ k = len1 := by omega
      rcases hcs with ⟨h1, h2⟩ | h1
      · have hd : decide ((k : Int) < 60) = false := decide_eq_false (by omega)
        have hdl : (k : Int) < (len1 : Int) := by omega
        go_wp2_with fail
        with_reducible refine (aI.known_any _).mono ?_
        rintro e w3 ⟨rfl, hb3⟩
        have HB := Lib.hid (HSt.out.below hb3).b
        clear hb3
        go_wp2
        go_ret
        exact ⟨rfl, HB.out⟩
      · have hdl : decide ((k : Int) < (len1 : Int)) = false := decide_eq_false (by omega)
        go_wp2_with fail
        with_reducible refine (aI.known_any _).mono ?_
        rintro e w3 ⟨rfl, hb3⟩
        have HB := Lib.hid (HSt.out.below hb3).b
        clear hb3
        go_wp2
        go_ret
        exact ⟨rfl, HB.out⟩
end Go.Proofs.Ytdompamilgbnnaa

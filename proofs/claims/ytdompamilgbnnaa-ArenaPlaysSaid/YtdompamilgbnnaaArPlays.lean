/-
  The law ArenaPlays, walked.
-/
import Derived.Deep.CutBlock
import Derived.Test.YtdompamilgbnnaaAIK
import Derived.Test.YtdompamilgbnnaaArC
import Derived.Test.YtdompamilgbnnaaArPA
import Derived.Test.YtdompamilgbnnaaArPB
import Derived.Test.YtdompamilgbnnaaArPlaysA
import Derived.Test.YtdompamilgbnnaaArPlaysS
import Derived.Test.YtdompamilgbnnaaArPlaysI
namespace Go.Proofs.Ytdompamilgbnnaa
open Go.RowKit aI

attribute [local go_sem] Oper.semAt_some

set_option maxRecDepth 100000 in
set_option maxHeartbeats 8000000 in
theorem plays_law (a0 : Int) (a : Option Addr) (len cap : Nat) (w : World) (_ : len ≤ 9223372036854775807) (ha : ActsAt w a len) :
    Calls Try.prog 3 #[.int .i64 a0, .slice a len cap] w fun e w' => e = .returned (.bool true) ∧ Below w.heap.size w w' := by
  by_cases hr : a0 < 1 ∨ 64 < a0
  · exact plays_bad a0 _ w hr
  obtain ⟨n, rfl⟩ : ∃ n : Nat, a0 = (n : Int) := ⟨a0.toNat, by omega⟩
  have hr1 : 1 ≤ n := by omega
  have hr2 : n ≤ 64 := by omega
  have hd1 : decide ((n : Int) < 1) = false := by simp; omega
  have hd2 : decide ((64 : Int) < (n : Int)) = false := by simp; omega
  clear hr
  obtain ⟨S, hS⟩ : ∃ S, S = w.heap.size := ⟨_, rfl⟩
  have HNew := Lib.hid (new_st n w S hS.symm hr1 hr2)
  rw [← hS]
  have HS := Lib.hid hS
  have HA := Lib.hid ha
  clear hS ha
  go_enter Try.func3, Try.ntmps3
  go_wp2_with fail
  refine HNew.out.mono ?_
  rintro e w1 ⟨R, rfl, h1⟩
  have H1 := Lib.hid h1
  clear h1 HNew
  go_wp2_with fail
  refine (rnew_any n w1 hr2).mono ?_
  rintro e w2 ⟨v2, rfl, hr2', hb2⟩
  have HR2 := Lib.hid (hr2'.mono (show R + 1 ≤ w1.heap.size by have := H1.out.z; omega))
  have H2 := Lib.hid (H1.out.below hb2)
  have HRS := Lib.hid H1.out.r
  clear hr2' hb2 H1
  go_wp2_with fail
  go_loopw [7, 8] (fun m i wr => ∃ (k : Nat) (v : Value) (xs : List (Sl Int)), k ≤ len ∧ i = .int .i64 (k : Int) ∧ m = v ∧ RS wr (R + 1) v xs ∧ St S w wr R xs) (fun _ i _ => len - (intOf i).toNat)
  case atStart => exact ⟨0, _, _, Nat.zero_le _, rfl, rfl, HR2.out, H2.out⟩
  case round =>
    obtain ⟨k, v, xs, hk, rfl, rfl, hr, hst⟩ := hrel
    have HR := Lib.hid hr
    have HSt := Lib.hid hst
    have h64 := hst.a.n2
    have HG := Lib.hid hst.a.gb
    clear hr hst HR2 H2
    by_cases hlt : k < len ∧ k < 80
    · obtain ⟨hlt, h80⟩ := hlt
      rcases HA.out with h0 | ⟨b, off, rfl, hacts⟩
      · exfalso; omega
      obtain ⟨K, s, g, x, hc0, hc1, hc2, hc3⟩ := hacts k hlt
      have hbs : b < S := by rw [HS.out]; exact cell_lt hc0
      have hc0 := (HSt.out.b.cell (p := ⟨b, off + k * 4, none⟩) hbs).trans hc0
      have hc1 := (HSt.out.b.cell (p := ⟨b, off + k * 4 + 1, none⟩) hbs).trans hc1
      have hc2 := (HSt.out.b.cell (p := ⟨b, off + k * 4 + 2, none⟩) hbs).trans hc2
      have hc3 := (HSt.out.b.cell (p := ⟨b, off + k * 4 + 3, none⟩) hbs).trans hc3
      have ht1 : decide ((k : Int) < 80) = true := by simp; omega
      have ht2 : (k : Int) < (len : Int) := by omega
      clear hacts hbs
      have hU : 0 ≤ IntKind.u64.wrap K ∧ IntKind.u64.wrap K < 18446744073709551616 := by rw [IntKind.wrap_u64]; omega
      generalize hgU : IntKind.u64.wrap K = U at hU
      obtain ⟨hU0, hU1⟩ := hU
      have HX0 := Lib.hid ((Box4.new wr K s g x 31).ch ((Ch.refl [] _).alloc (.cells #[.int .i64 s, .int .i64 g] 33)) (by simp))
      have HY0 := Lib.hid (Box2.new (wr.alloc (.cells #[.int .i64 K, .int .i64 s, .int .i64 g, .int .i64 x] 31)) (.int .i64 s) (.int .i64 g) 33)
      have HC0 := Lib.hid (((Ch.refl [] wr).alloc (.cells #[.int .i64 K, .int .i64 s, .int .i64 g, .int .i64 x] 31)).alloc (.cells #[.int .i64 s, .int .i64 g] 33))
      have e1 : (wr.alloc (.cells #[.int .i64 K, .int .i64 s, .int .i64 g, .int .i64 x] 31)).heap.size = wr.heap.size + 1 := by simp
      rw [e1] at HY0
      have HXl := Lib.hid (show S < wr.heap.size by have := HSt.out.r; have := HSt.out.z; omega)
      clear e1
      go_wp2_with fail
      generalize (wr.alloc (.cells #[.int .i64 K, .int .i64 s, .int .i64 g, .int .i64 x] 31)).alloc (.cells #[.int .i64 s, .int .i64 g] 33) = w3 at *
      have HR3 := Lib.hid (HR.out.ch HC0.out (by simp))
      have H3 := Lib.hid (HSt.out.quiet HC0.out)
      obtain ⟨A, hA⟩ : ∃ A, A = wr.heap.size := ⟨_, rfl⟩
      rw [← hA] at HX0 HY0 HXl ⊢
      have HY1 := Lib.hid (show S < A + 1 by have := HXl.out; omega)
      clear HR HSt HC0 hA hc0 hc1 hc2 hc3
      with_reducible refine (rfind_any HR3.out s g).mono ?_
      rintro e w' ⟨rfl, rfl⟩
      obtain ⟨E, hE⟩ : ∃ E, E = findE xs s g := ⟨_, rfl⟩
      rw [← hE]
      have HE := Lib.hid hE
      clear hE
      have x0 := HX0.out.c0
      go_upto_block 2 with (fail)
      refine plays_switch HR3.out H3.out HX0.out HY0.out HXl.out HE.out ?_
      intro x4 x7 x12 x13 x14 x15 x16 x17 x18 x19 x20 x21 x81
      intro x82 x83 x84 x85 x86 x87 x88 x89 x90 x91 x92 x93 x94 x95 x96 x97 x98 x99 x100 x101 x102 x103 x104 x105 x106 x107 x108 x109 x110 x111 x112 x113 x114 x115 x116 x117 x118 x119 x120 x121 x122 x123 x124 x125 x126 x127 x128 x129 x130 x131 x132 x133 x134 x135 x136 x137 x138 x139 x140 x141 x142 x143 x144 x145 x146 x147 x148 x149 x150 x151 x152 x153 x154 x155 x156 x157 x158 x159 x160 x161 x162 x163 x164 x165 x166 x167 x168 x169 x170 x171 x172 x173 x174 x175 x176 x177 x178 x179 x180 x181 x182
      intro ys wx hr hst
      obtain ⟨a7, c7, hv7⟩ := own_form hr
      subst hv7
      have y64 := hst.a.n2
      have HR := Lib.hid hr
      have HSt := Lib.hid hst
      have hll := sel_len ys isHeld
      have hlf := sel_len ys isFree
      obtain ⟨nh, hnh⟩ : ∃ nh, nh = (sel ys isHeld).length := ⟨_, rfl⟩
      obtain ⟨nf, hnf⟩ : ∃ nf, nf = (sel ys isFree).length := ⟨_, rfl⟩
      have HC := Lib.hid (rcount_any hr y64)
      rw [← hnh, ← hnf] at HC
      rw [← hnh] at hll
      rw [← hnf] at hlf
      have HNh := Lib.hid hnh
      have HNf := Lib.hid hnf
      have n1 : ((nh : Int) != (nh : Int)) = false := by simp
      have n2 : ((nf : Int) != (nf : Int)) = false := by simp
      clear hr hst HR3 H3 HX0 HY0 hnh hnf
      go_wp2_with fail
      with_reducible refine HC.out.mono ?_
      rintro e w' ⟨rfl, rfl⟩
      go_wp2_with fail
      have hlv := live_st HSt.out
      rw [← HNh.out] at hlv
      with_reducible refine hlv.mono ?_
      rintro e w5 ⟨vl, rfl, ho5, h5, hc5⟩
      have HR5 := Lib.hid (HR.out.ch hc5 (by simp))
      have HO5 := Lib.hid ho5
      obtain ⟨al, cl, rfl⟩ := own_form ho5
      have H5 := Lib.hid h5
      clear hlv ho5 h5 hc5 HR HSt
      go_wp2_with fail
      have hln := len_st H5.out
      rw [← HNh.out] at hln
      with_reducible refine hln.mono ?_
      rintro e w6 ⟨rfl, h6, hc6⟩
      have HR6 := Lib.hid (HR5.out.ch hc6 (by simp))
      have HO6 := Lib.hid (own_ch HO5.out hc6 (by simp))
      have H6 := Lib.hid h6
      clear hln h6 hc6 HR5 HO5 H5
      go_wp2_with fail
      have hrm := room_st H6.out
      rw [← HNf.out] at hrm
      with_reducible refine hrm.mono ?_
      rintro e w7 ⟨rfl, h7, hc7⟩
      have HR7 := Lib.hid (HR6.out.ch hc7 (by simp))
      have HO7 := Lib.hid (own_ch HO6.out hc7 (by simp))
      have H7 := Lib.hid h7
      clear hrm h7 hc7 HR6 HO6 H6
      go_upto_block 3 with (fail)
      refine plays_inner HR7.out H7.out HNh.out HO7.out ?_
      intro x4' x25 x26 x27 x28
      intro x206 x207 x208 x209 x210 x211 x212 x213 x214 x215 x216 x217 x218 x219 x220 x221 x222 x223 x224 x225 x226 x227 x228 x229 x230 x231 x232 x233 x234 x235 x236 x237 x238 x239 x240 x241 x242 x243 x244 x245 x246 x247 x248 x249 x250 x251 x252 x253 x254 x255 x256 x257 x258 x259
      intro wq hrq hsq
      have HRq := Lib.hid hrq
      have HSq := Lib.hid hsq
      clear hrq hsq
      go_wp2_with fail
      go_roundw
      case rel => exact ⟨k + 1, _, ys, by omega, by go_num, rfl, HRq.out, HSq.out⟩
      case measure => simp [intOf]; omega
    · have hcs : (k < len ∧ ¬ k < 80) ∨ k = len := by omega
      rcases hcs with ⟨h1, h2⟩ | h1
      · have hd : decide ((k : Int) < 80) = false := by simp; omega
        have hdl : (k : Int) < (len : Int) := by omega
        go_wp2_with fail
        with_reducible refine (known_any _).mono ?_
        rintro e w3 ⟨rfl, hb3⟩
        have HB := Lib.hid (HSt.out.below hb3).b
        clear hb3
        go_wp2
        go_ret
        exact ⟨rfl, HB.out⟩
      · have hdl : decide ((k : Int) < (len : Int)) = false := by simp; omega
        go_wp2_with fail
        with_reducible refine (known_any _).mono ?_
        rintro e w3 ⟨rfl, hb3⟩
        have HB := Lib.hid (HSt.out.below hb3).b
        clear hb3
        go_wp2
        go_ret
        exact ⟨rfl, HB.out⟩
end Go.Proofs.Ytdompamilgbnnaa

/-
  The law BucketsSpread, walked.
-/
import Derived.Test.YtaccfjlpojglpaaBuK
import Derived.Test.YtaccfjlpojglpaaBuQ
import Derived.Test.YtaccfjlpojglpaaBBK
import Derived.Deep.CutBlock
namespace Go.Proofs.Ytaccfjlpojglpaa
open Go.RowKit bB

attribute [local go_sem] Oper.semAt_some

set_option maxRecDepth 100000 in
set_option maxHeartbeats 4000000 in
theorem spread_law (r : Int) (a : Option Addr) (cap : Nat) (zs : List Nat) (w : World) (hzs : bI.KU w a zs) (_ : zs.length ≤ 9223372036854775807) :
    Calls Try.prog 5 #[.int .i64 r, .slice a zs.length cap] w fun e w' => e = .returned (.bool true) ∧ Ch [] w w' := by
  have u0 : 0 ≤ IntKind.u64.wrap r ∧ IntKind.u64.wrap r < 18446744073709551616 := by rw [IntKind.wrap_u64]; omega
  generalize hg0 : IntKind.u64.wrap r = U0 at u0
  obtain ⟨u00, u01⟩ := u0
  obtain ⟨n, hr0, hr1, hr2⟩ : ∃ n : Nat, 1 + U0 % 64 = (n : Int) ∧ 1 ≤ n ∧ n ≤ 64 := ⟨(1 + U0 % 64).toNat, by omega⟩
  obtain ⟨len, hlen⟩ : ∃ len, len = zs.length := ⟨_, rfl⟩
  rw [← hlen]
  have HLn := Lib.hid hlen
  have HZ := Lib.hid hzs
  have hN := tl_new n 64 w w (Ch.refl _ _) ⟨hr1, hr2⟩ (by omega)
  rw [show (((64 : Nat) : Int)) = 64 from rfl] at hN
  have HNew := Lib.hid hN
  have HKn := Lib.hid (fun W => known_any W)
  clear hN hlen hzs
  go_enter Try.func5, Try.ntmps5
  go_wp2_with fail
  with_reducible refine HNew.out.mono ?_
  rintro e w1 ⟨R, rfl, ht1, -⟩
  have HT1 := Lib.hid ht1
  clear ht1 HNew hg0 hr0 u00 u01
  go_upto_block 0 with fail
  go_cut [7] from 30 (fun _ wx => ∃ L : List E, TL w wx w.heap.size R n 64 L ∧ ∀ j k, j < len → j < 64 → zs[j]? = some k → k ∈ ksE L)
  case first =>
    go_wp2_with fail
    go_loopw [7] (fun vi wr => ∃ (i : Nat) (L : List E), i ≤ len ∧ i ≤ 64 ∧ vi = .int .i64 (i : Int) ∧ TL w wr w.heap.size R n 64 L ∧ L.length ≤ i ∧ ∀ j k, j < i → zs[j]? = some k → k ∈ ksE L) (fun vi _ => 64 - (intOf vi).toNat)
    case atStart => exact ⟨0, [], Nat.zero_le _, Nat.zero_le _, rfl, HT1.out, Nat.le_refl _, fun j k h => absurd h (Nat.not_lt_zero _)⟩
    case round =>
      obtain ⟨i, L, hi, hi64, rfl, ht, hLi, hall⟩ := hrel
      have HT := Lib.hid ht
      have HAll := Lib.hid hall
      clear ht hall
      by_cases hgo : i < len ∧ i < 64
      · obtain ⟨hlt, hlt64⟩ := hgo
        obtain ⟨k, hk⟩ : ∃ k, zs[i]? = some k := ⟨_, List.getElem?_eq_getElem (by rw [← HLn.out]; exact hlt)⟩
        have HK := Lib.hid hk
        obtain ⟨b, off, rfl, hck⟩ := KU_at (KU_quiet HZ.out HT.out.ch) hk
        obtain ⟨X, p, hX, hXl, hX1, hX2⟩ := put_free (room := 64) (show L.length < 64 by omega) k true
        have hP := HT.out.put k true hX
        rw [show (((0 : Nat) : Int)) = 0 from rfl] at hP
        have HP := Lib.hid hP
        have HX1 := Lib.hid hX1
        have HX2 := Lib.hid hX2
        clear hX hP hk hX1 hX2
        go_wp2_with fail
        with_reducible refine HP.out.mono ?_
        rintro e w2 ⟨rfl, ht2, -⟩
        have HT2 := Lib.hid ht2
        clear ht2 HP hck
        go_wp2_with fail
        go_roundw
        case rel =>
          refine ⟨i + 1, X, by omega, by omega, by go_num, HT2.out, by omega, fun j q hj hq => ?_⟩
          by_cases e : j = i
          · subst e
            rw [HK.out] at hq
            cases hq
            exact HX1.out
          · exact HX2.out q (HAll.out j q (by omega) hq)
        case measure => simp [intOf]; omega
      · have HM := Lib.hid (show ∀ j k, j < len → j < 64 → zs[j]? = some k → k ∈ ksE L from fun j k h1 h2 => HAll.out j k (by omega))
        by_cases hlt : i < len
        · have h64 : ¬ (i : Int) < 64 := by omega
          go_wp2
          go_meet
          exact ⟨L, HT.out, HM.out⟩
        · go_wp2
          go_meet
          exact ⟨L, HT.out, HM.out⟩
  case rest =>
    obtain ⟨L, ht, hm⟩ := hcut
    have HT := Lib.hid ht
    have HM := Lib.hid hm
    have HKeys := Lib.hid ht.keys
    have hle := ht.le
    have hl64 : L.length ≤ 64 := by omega
    have HNd := Lib.hid hle.2.2.2.2.2.2
    have HKl := Lib.hid (keysE_len (show 0 < n by omega) L)
    have HLe := Lib.hid (show ∀ m, m ≤ n → lenE n L m ≤ L.length from fun m hm => by
      have h1 := lenE_le (n := n) L (m := m) (n - m)
      rwa [show m + (n - m) = n by omega, lenE_all (by omega)] at h1)
    have HLa := Lib.hid (lenE_all (show 0 < n by omega) L)
    clear hle ht hm HT1
    obtain ⟨q, hq⟩ : ∃ q, q = L.length := ⟨_, rfl⟩
    have HQ := Lib.hid hq
    rw [← hq] at hl64 HLa HKl
    have HKl2 := Lib.hid (show (keysE n L).length = q from HKl.out)
    clear hq
    go_wp2_with fail
    with_reducible refine HKeys.out.mono ?_
    rintro e w5 ⟨v5, rfl, hr5, hc5⟩
    obtain ⟨a5, cap5, rfl⟩ := own_form hr5
    rw [HKl2.out] at hr5 ⊢
    have HR5 := Lib.hid (own_KU hr5).2
    have HT5 := Lib.hid (HT.out.quiet hc5)
    clear hr5 hc5 HKeys HT
    go_wp2_with fail
    go_loopw [9, 10] (fun vc vb wr => ∃ b : Nat, b ≤ n ∧ vb = .int .i64 (b : Int) ∧ vc = .int .i64 (lenE n L b : Int) ∧ Ch [] w5 wr) (fun _ vb _ => n - (intOf vb).toNat)
    case atStart => exact ⟨0, Nat.zero_le _, rfl, rfl, Ch.refl _ _⟩
    case round =>
      obtain ⟨b, hb, rfl, rfl, hc⟩ := hrel
      have HC := Lib.hid hc
      clear hc
      by_cases hbn : b < n
      · have HCh := (HT5.out.quiet HC.out).chain (b : Int)
        rw [chI_in hbn] at HCh
        have HCh := Lib.hid HCh
        have hlb := HLe.out b (by omega)
        have hlb1 := HLe.out (b + 1) (by omega)
        rw [← HQ.out] at hlb hlb1
        have hl2 : lenE n L (b + 1) = lenE n L b + (chn n b L).length := rfl
        obtain ⟨m, hm⟩ : ∃ m, m = (chn n b L).length := ⟨_, rfl⟩
        obtain ⟨c, hc⟩ : ∃ c, c = lenE n L b := ⟨_, rfl⟩
        have HAt := Lib.hid (fun i (hi : i < m) => keysE_at hbn L (hm ▸ hi))
        rw [← hc] at HAt
        rw [← hm] at hl2 HCh
        rw [← hc] at hl2 hlb ⊢
        rw [hl2] at hlb1
        have HL2 := Lib.hid hl2
        clear hm hc hl2
        go_wp2_with fail
        with_reducible refine HCh.out.mono ?_
        rintro e w6 ⟨v6, rfl, hr6, hc6⟩
        obtain ⟨a6, cap6, rfl⟩ := own_form hr6
        have HR6 := Lib.hid (own_KU hr6).2
        have HC6 := Lib.hid (HC.out.trans hc6)
        clear hr6 hc6 HCh
        go_wp2_with fail
        go_loopw [9, 12] (fun vc vi wr => ∃ i p : Nat, i ≤ m ∧ p = c + i ∧ vi = .int .i64 (i : Int) ∧ vc = .int .i64 (p : Int) ∧ Ch [] w6 wr) (fun _ vi _ => m - (intOf vi).toNat)
        case atStart => exact ⟨0, c, Nat.zero_le _, rfl, rfl, rfl, Ch.refl _ _⟩
        case round =>
          obtain ⟨i, p, hi, hp, rfl, rfl, hc⟩ := hrel
          have HP := Lib.hid hp
          have HC7 := Lib.hid hc
          clear hc
          by_cases him : i < m
          · obtain ⟨x, hx1, hx2, hx3⟩ := HAt.out i him
            rw [← hp] at hx1
            have HCw := Lib.hid (HC6.out.trans HC7.out)
            obtain ⟨g1, o1, rfl, k1⟩ := KU_at (KU_quiet HR5.out HCw.out) hx1
            obtain ⟨g2, o2, rfl, k2⟩ := KU_at (KU_quiet HR6.out HC7.out) hx2
            have HB := Lib.hid (fun W (hW : Ch [] wr W) => (HT5.out.quiet (HCw.out.trans hW)).bucket x)
            rw [hx3] at HB
            have hge : decide ((q : Int) ≤ (p : Int)) = false := by simp; omega
            have hge2 : decide (q ≤ p) = false := by simp; omega
            have hp1 : (0 : Int) ≤ (p : Int) := by omega
            have hp2 : (p : Int) < (q : Int) := by omega
            have hp3 : (i : Int) < (m : Int) := by omega
            have hxx : ((x : Int) != (x : Int)) = false := by simp
            have hbb : ((b : Int) != (b : Int)) = false := by simp
            clear hx1 hx2 hx3 hp
            go_wp2
            go_quiet ((go_at_call 31; exact Calls.quiet_of_same (HB.out _ ((Ch.refl [] wr).drewN _))))
            go_wp2
            go_roundw
            case rel => exact ⟨i + 1, p + 1, by omega, by rw [HP.out]; omega, by go_num, by go_num, HC7.out.drewN _⟩
            case measure => simp [intOf]; omega
          · obtain rfl : i = m := by omega
            go_wp2
            go_roundw
            case rel => exact ⟨b + 1, by omega, by go_num, by rw [HL2.out, hp], HC6.out.trans HC7.out⟩
            case measure => simp [intOf]; omega
      · obtain rfl : b = n := by omega
        rw [HLa.out]
        have HNe := Lib.hid (fun (i k x y : Nat) (hik : k < i) (h1 : (keysE b L)[k]? = some x) (h2 : (keysE b L)[i]? = some y) => keysE_ne HNd.out hik h1 h2)
        have HEx := Lib.hid (show ∀ i, i < q → ∃ x, (keysE b L)[i]? = some x from fun i hi => ⟨_, List.getElem?_eq_getElem (by rw [HKl2.out]; exact hi)⟩)
        clear hbn hb
        go_wp2_with fail
        go_loopw [13] (fun vi wr => ∃ i : Nat, i ≤ q ∧ vi = .int .i64 (i : Int) ∧ Ch [] w5 wr) (fun vi _ => q - (intOf vi).toNat)
        case atStart => exact ⟨0, Nat.zero_le _, rfl, HC.out⟩
        case round =>
          obtain ⟨i, hi, rfl, hc⟩ := hrel
          have HC7 := Lib.hid hc
          clear hc
          by_cases hiq : i < q
          · obtain ⟨x, hx⟩ := HEx.out i hiq
            have HX := Lib.hid hx
            clear hx
            go_wp2_with fail
            go_loopw [14] (fun vk wk => ∃ k : Nat, k ≤ i ∧ vk = .int .i64 (k : Int) ∧ Ch [] w5 wk) (fun vk _ => i - (intOf vk).toNat)
            case atStart => exact ⟨0, Nat.zero_le _, rfl, HC7.out⟩
            case round =>
              obtain ⟨k, hk, rfl, hc⟩ := hrel
              have HC8 := Lib.hid hc
              clear hc
              by_cases hki : k < i
              · obtain ⟨y, hy⟩ := HEx.out k (by omega)
                obtain ⟨g1, o1, he1, k1⟩ := KU_at (KU_quiet HR5.out HC8.out) HX.out
                obtain ⟨g2, o2, he2, k2⟩ := KU_at (KU_quiet HR5.out HC8.out) hy
                obtain rfl := he1
                cases he2
                have hne := HNe.out _ _ _ _ hki hy HX.out
                have hxy : ((y : Int) == (x : Int)) = false := by simp; omega
                have hxy2 : (y == x) = false := by simp; omega
                have hp1 : (0 : Int) ≤ (k : Int) := by omega
                have hp2 : (k : Int) < (q : Int) := by omega
                have hp3 : (0 : Int) ≤ (i : Int) := by omega
                have hp4 : (i : Int) < (q : Int) := by omega
                clear hy hne
                go_wp2
                go_quiet (fail)
                go_wp2
                go_roundw
                case rel => exact ⟨k + 1, by omega, by go_num, HC8.out.drewN _⟩
                case measure => simp [intOf]; omega
              · obtain rfl : k = i := by omega
                go_wp2
                go_roundw
                case rel => exact ⟨k + 1, by omega, by go_num, HC8.out⟩
                case measure => simp [intOf]; omega
          · go_wp2_with fail
            clear hi hiq
            go_loopw [15] (fun vi wr => ∃ i : Nat, i ≤ len ∧ i ≤ 64 ∧ vi = .int .i64 (i : Int) ∧ Ch [] w5 wr) (fun vi _ => 64 - (intOf vi).toNat)
            case atStart => exact ⟨0, Nat.zero_le _, Nat.zero_le _, rfl, HC7.out⟩
            case round =>
              obtain ⟨i, hi, hi64, rfl, hc⟩ := hrel
              have HC9 := Lib.hid hc
              clear hc
              by_cases hgo : i < len ∧ i < 64
              · obtain ⟨hlt, hlt64⟩ := hgo
                obtain ⟨k, hk⟩ : ∃ k, zs[i]? = some k := ⟨_, List.getElem?_eq_getElem (by rw [← HLn.out]; exact hlt)⟩
                have hks := val_some (HM.out i k hlt hlt64 hk)
                have HTw := Lib.hid (HT5.out.quiet HC9.out)
                obtain ⟨bb, off, rfl, hck⟩ := KU_at (KU_quiet HZ.out HTw.out.ch) hk
                have HG := Lib.hid (HTw.out.get k rfl hks)
                clear hk hks
                go_wp2_with fail
                with_reducible refine HG.out.mono ?_
                rintro e w8 ⟨rfl, hc8⟩
                have HC10 := Lib.hid (HC9.out.trans hc8)
                clear hc8 HG hck
                go_wp2_with fail
                go_roundw
                case rel => exact ⟨i + 1, by omega, by omega, by go_num, HC10.out⟩
                case measure => simp [intOf]; omega
              · have hqq : ((q : Int) == (q : Int)) = true := by simp
                by_cases hlt : i < len
                · have h64 : ¬ (i : Int) < 64 := by omega
                  go_wp2_with fail
                  with_reducible refine (HKn.out _).mono ?_
                  rintro e w8 ⟨rfl, hc8⟩
                  have HTw := Lib.hid (HT5.out.quiet (HC9.out.trans hc8))
                  have HL := HTw.out.len
                  rw [← HQ.out] at HL
                  have HL := Lib.hid HL
                  clear hc8
                  go_wp2_with fail
                  with_reducible refine HL.out.mono ?_
                  rintro e w9 ⟨rfl, rfl⟩
                  go_wp2
                  go_ret
                  exact ⟨rfl, HTw.out.ch⟩
                · go_wp2_with fail
                  with_reducible refine (HKn.out _).mono ?_
                  rintro e w8 ⟨rfl, hc8⟩
                  have HTw := Lib.hid (HT5.out.quiet (HC9.out.trans hc8))
                  have HL := HTw.out.len
                  rw [← HQ.out] at HL
                  have HL := Lib.hid HL
                  clear hc8
                  go_wp2_with fail
                  with_reducible refine HL.out.mono ?_
                  rintro e w9 ⟨rfl, rfl⟩
                  go_wp2
                  go_ret
                  exact ⟨rfl, HTw.out.ch⟩
end Go.Proofs.Ytaccfjlpojglpaa

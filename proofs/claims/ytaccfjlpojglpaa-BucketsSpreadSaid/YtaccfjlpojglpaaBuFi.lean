/-
  The law BucketsFind, walked.
-/
import Derived.Test.YtaccfjlpojglpaaBuK
import Derived.Test.YtaccfjlpojglpaaBuQ
import Derived.Test.YtaccfjlpojglpaaBSK
import Derived.Deep.RegionHeld3
import Derived.Deep.CutBlock
namespace Go.Proofs.Ytaccfjlpojglpaa
open Go.RowKit bS

attribute [local go_sem] Oper.semAt_some

/-- Bools, strings that lie in memory, as a slice shows them. -/
def BAt (w : World) (a : Option Addr) (n : Nat) (B : Nat → Bool) : Prop := n = 0 ∨ ∃ b off, a = some ⟨b, off, none⟩ ∧ ∀ i, i < n → w.cell? ⟨b, off + i, none⟩ = some (.bool (B i))
theorem BAt.quiet {w w' : World} {a : Option Addr} {n : Nat} {B : Nat → Bool} (h : BAt w a n B) (hc : Ch [] w w') : BAt w' a n B := by
  rcases h with h | ⟨b, off, rfl, h⟩
  · exact .inl h
  · exact .inr ⟨b, off, rfl, fun i hi => (hc.cell (p := ⟨b, off + i, none⟩) (cell_lt (h i hi)) (by simp)).trans (h i hi)⟩
def SAt (w : World) (a : Option Addr) (n : Nat) (S : Nat → V) : Prop := n = 0 ∨ ∃ b off, a = some ⟨b, off, none⟩ ∧ ∀ i, i < n → w.cell? ⟨b, off + i, none⟩ = some (vv (S i))
theorem SAt.quiet {w w' : World} {a : Option Addr} {n : Nat} {S : Nat → V} (h : SAt w a n S) (hc : Ch [] w w') : SAt w' a n S := by
  rcases h with h | ⟨b, off, rfl, h⟩
  · exact .inl h
  · exact .inr ⟨b, off, rfl, fun i hi => (hc.cell (p := ⟨b, off + i, none⟩) (cell_lt (h i hi)) (by simp)).trans (h i hi)⟩
set_option maxRecDepth 100000 in
set_option maxHeartbeats 4000000 in
theorem find_law (r : Int) (a : Option Addr) (cap : Nat) (ls : List Nat) (va : Option Addr) (vl vcap : Nat) (s : Nat → V) (da : Option Addr) (dl dcap : Nat) (B : Nat → Bool) (w : World) (hls : bI.KU w a ls) (hl : ls.length ≤ cap) (_ : cap ≤ 9223372036854775807) (hS : SAt w va vl s) (hvl : vl ≤ 9223372036854775807) (hB : BAt w da dl B) (hdl : dl ≤ 9223372036854775807) :
    Calls Try.prog 4 #[.int .i64 r, .slice a ls.length cap, .slice va vl vcap, .slice da dl dcap] w fun e w' => e = .returned (.bool true) ∧ Ch [] w w' := by
  have u0 : 0 ≤ IntKind.u64.wrap r ∧ IntKind.u64.wrap r < 18446744073709551616 := by rw [IntKind.wrap_u64]; omega
  generalize hg0 : IntKind.u64.wrap r = U0 at u0
  obtain ⟨u00, u01⟩ := u0
  obtain ⟨R0, hr0, hr1, hr2⟩ : ∃ n : Nat, 1 + U0 % 64 = (n : Int) ∧ 1 ≤ n ∧ n ≤ 64 := ⟨(1 + U0 % 64).toNat, by omega⟩
  obtain ⟨zs, hzs⟩ : ∃ zs, zs = ls.take (min 60 vl) := ⟨_, rfl⟩
  obtain ⟨n, hn⟩ : ∃ n, n = zs.length := ⟨_, rfl⟩
  have hn1 : n = min (min 60 vl) ls.length := by rw [hn, hzs, List.length_take]
  obtain ⟨len, hlen⟩ : ∃ len, len = ls.length := ⟨_, rfl⟩
  have HKz := Lib.hid (show bI.KU w a zs by
    rw [hzs]
    rcases hls with rfl | ⟨b, off, rfl, h⟩
    · exact .inl (by simp)
    · refine .inr ⟨b, off, rfl, fun j k hj => h j k ?_⟩
      rw [List.getElem?_take] at hj
      split at hj
      · exact hj
      · cases hj)
  obtain ⟨z, hz⟩ : ∃ z : Nat → Nat, ∀ j, j < n → zs[j]? = some (z j) := ⟨fun j => (zs[j]?).getD 0, fun j hj => by simp only []; rw [List.getElem?_eq_getElem (by omega)]; rfl⟩
  have HZ := Lib.hid hz
  obtain ⟨db, hdb⟩ : ∃ db : Nat → Bool, db = fun i => decide (i < dl) && B i := ⟨_, rfl⟩
  have HDb := Lib.hid hdb
  rw [← hlen] at hn1 hl ⊢
  have hm3 : ∀ (ts : Array TypeId) (t : TypeId) (w : World), (Builtin.min_ ts t #[.int .i64 (len : Int), .int .i64 60, .int .i64 (vl : Int)]).run Try.prog w = .ok (.int .i64 (n : Int)) w := fun ts t w => by
    have e : (if (vl : Int) < (if (60 : Int) < (len : Int) then (60 : Int) else (len : Int)) then (vl : Int) else if (60 : Int) < (len : Int) then (60 : Int) else (len : Int)) = (n : Int) := by split <;> split <;> omega
    rw [← e]
    simp [Builtin.min_, Builtin.min2]
  have hncap : n ≤ cap := by omega
  have hn60 : n ≤ 60 := by omega
  have hnvl : n ≤ vl := by omega
  have hd0 : decide ((n : Int) < 0) = false := by simp
  have hN := tl_new R0 64 w w (Ch.refl _ _) ⟨hr1, hr2⟩ (by omega)
  rw [show (((64 : Nat) : Int)) = 64 from rfl] at hN
  have HNew := Lib.hid hN
  have HNn := Lib.hid hn
  have HBt := Lib.hid hB
  have HSt := Lib.hid hS
  clear hls hlen hn1 hn hzs hl hz hdb hN hB hS
  go_enter Try.func4, Try.ntmps4
  go_wp2_with fail
  with_reducible refine HNew.out.mono ?_
  rintro e w1 ⟨R, rfl, ht1, -⟩
  have HT1 := Lib.hid ht1
  clear ht1 HNew hg0 hr0 u00 u01
  go_wp2_with fail
  clear hm3
  go_loopw [11] (fun vi wr => ∃ (i : Nat) (L : List E), i ≤ n ∧ vi = .int .i64 (i : Int) ∧ TL w wr w.heap.size R R0 64 L ∧ L.length ≤ i ∧ Last z s db i L) (fun vi _ => n - (intOf vi).toNat)
  case atStart => exact ⟨0, [], Nat.zero_le _, rfl, HT1.out, Nat.le_refl _, fun j h => absurd h (Nat.not_lt_zero _)⟩
  case round =>
    obtain ⟨i, L, hi, rfl, ht, hLi, hq⟩ := hrel
    have HT := Lib.hid ht
    have HQ := Lib.hid hq
    clear ht hq
    by_cases hlt : i < n
    · obtain ⟨X, p, hX, hXl, hX0, hX1, hX2⟩ := put_free_val (room := 64) (show L.length < 64 by omega) (z i) (s i)
      have hP := (HT.out.quiet (Ch.refl [] wr).drew).put (z i) (s i) hX
      rw [show (((0 : Nat) : Int)) = 0 from rfl] at hP
      have HP := Lib.hid hP
      have HX0 := Lib.hid hX0
      have HX1 := Lib.hid hX1
      have HX2 := Lib.hid hX2
      clear hX hP hX0 hX1 hX2
      obtain ⟨b, off, rfl, -⟩ := KU_at (KU_quiet HKz.out HT.out.ch) (HZ.out i hlt)
      have HKc := Lib.hid (fun W (hW : Ch [] w W) j (hj : j < n) => KU_cell (KU_quiet HKz.out hW) (HZ.out j hj))
      obtain ⟨bv, ov, hva, hvc⟩ := HSt.out.resolve_left (by omega)
      subst hva
      have HVc := Lib.hid (fun W (hW : Ch [] w W) j (hj : j < n) => ((hW.cell (p := ⟨bv, ov + j, none⟩) (cell_lt (hvc j (by omega))) (by simp)).trans (hvc j (by omega))))
      clear hvc
      obtain ⟨k, hk⟩ : ∃ k, k = z i := ⟨_, rfl⟩
      obtain ⟨x, hx⟩ : ∃ x, x = s i := ⟨_, rfl⟩
      have hc0 := HKc.out wr HT.out.ch i hlt
      have hv0 := HVc.out wr HT.out.ch i hlt
      rw [← hk] at hc0 HP HX0 HX1 HX2
      rw [← hx] at hv0 HP HX1
      have HKe := Lib.hid hk
      have HXe := Lib.hid hx
      have hb0 : (0 : Int) ≤ (i : Int) := by omega
      have hb1 : (i : Int) < (n : Int) := by omega
      have hb2 : (i : Int) < (vl : Int) := by omega
      clear hk hx
      go_wp2_with fail
      go_region_held3 (fun w' => w'.cell? ⟨b, off + i, none⟩ = some (.int .u64 (k : Int)) ∧ w'.cell? ⟨bv, ov + i, none⟩ = some (vv x)) (go_keep) (first
        | (go_at_call 24; with_reducible refine HP.out.mono ?_; rintro e w2 ⟨rfl, ht2, -⟩; have HT2 := Lib.hid ht2; have e0 := HKc.out w2 HT2.out.ch i hlt; have e1 := HVc.out w2 HT2.out.ch i hlt; rw [← HKe.out] at e0; rw [← HXe.out] at e1; clear ht2)
        | fail)
      go_upto_region 11 with fail
      go_cut [78] from 38 to 141 (fun t78 wx => t78 = .bool false ∧ ∃ X' : List E, TL w wx w.heap.size R R0 64 X' ∧ X'.length ≤ i + 1 ∧ Last z s db (i + 1) X')
      case first =>
        by_cases hdi : i < dl
        · obtain ⟨bd, od, hda, hbc⟩ := (HBt.out.quiet HT2.out.ch).resolve_left (by omega)
          subst hda
          have hbi := hbc i hdi
          have hb3 : (i : Int) < (dl : Int) := by omega
          clear hbc
          cases hBi : B i with
          | true =>
            have HDt := Lib.hid (show db i = true by rw [HDb.out]; simp [hdi, hBi])
            rw [hBi] at hbi
            have hD := (HT2.out.quiet ((Ch.refl [] w2).alloc (.cells #[.int .u64 (k : Int)] 29))).del [k] (m := 1) (cap := 1) rfl (by omega) w2.heap.size (World.alloc_heap_new w2 _) (X := delE X k) (c := 1) (by unfold delsE; rw [if_pos HX0.out]; rfl)
            rw [show (((1 : Nat) : Int)) = 1 from rfl] at hD
            have HD := Lib.hid hD
            clear hD hBi
            go_wp2_with fail
            with_reducible refine HD.out.mono ?_
            rintro e w3 ⟨rfl, ht3, -⟩
            have HT3 := Lib.hid ht3
            clear ht3 HD
            go_wp2_with fail
            go_meet
            exact ⟨rfl, delE X k, HT3.out, Nat.le_trans (del_len_le X k) (by omega), by rw [HKe.out]; rw [HKe.out] at HX2; exact HQ.out.del HDt.out HX2.out⟩
          | false =>
            have HDt := Lib.hid (show db i = false by rw [HDb.out]; simp [hBi])
            rw [hBi] at hbi
            go_wp2_with fail
            go_meet
            exact ⟨rfl, X, HT2.out, by omega, by rw [HKe.out] at HX1 HX2; rw [HXe.out] at HX1; exact HQ.out.put HDt.out HX1.out HX2.out⟩
        · have HDt := Lib.hid (show db i = false by rw [HDb.out]; simp [hdi])
          have hb3 : ¬ (i : Int) < (dl : Int) := by omega
          go_wp2_with fail
          go_meet
          exact ⟨rfl, X, HT2.out, by omega, by rw [HKe.out] at HX1 HX2; rw [HXe.out] at HX1; exact HQ.out.put HDt.out HX1.out HX2.out⟩
      case rest =>
        obtain ⟨rfl, X', ht3, hl3, hq3⟩ := hcut
        have HT3 := Lib.hid ht3
        have HQ3 := Lib.hid hq3
        clear ht3 hq3
        have HVx := Lib.hid (show ∀ W, Ch [] w W → ∀ (j : Nat) (hj : j < n), W.cell? ⟨bv, ov + j, none⟩ = some (vv (s j)) from fun W hW j hj => HVc.out W hW j hj)
        clear e0 e1 hc0 hv0
        go_wp2_with fail
        go_loopw [14] (fun vk wk => ∃ k : Nat, k ≤ i + 1 ∧ vk = .int .i64 (k : Int) ∧ TL w wk w.heap.size R R0 64 X') (fun vk _ => i + 1 - (intOf vk).toNat)
        case atStart => exact ⟨0, Nat.zero_le _, rfl, HT3.out⟩
        case round =>
          obtain ⟨k1, hk1, rfl, htk⟩ := hrel
          have HTk := Lib.hid htk
          clear htk
          by_cases hki : k1 ≤ i
          · have hk0 : (0 : Int) ≤ (k1 : Int) := by omega
            have hk1n : (k1 : Int) < (n : Int) := by omega
            have hkn : k1 < n := by omega
            go_wp2_with fail
            go_loopw [15, 16, 17] (fun vl vo vj wj => ∃ (j Lj : Nat) (o : Bool), k1 ≤ j ∧ j ≤ i + 1 ∧ vj = .int .i64 (j : Int) ∧ vl = .int .i64 (Lj : Int) ∧ vo = .bool o ∧ TL w wj w.heap.size R R0 64 X' ∧ ((j = k1 ∧ Lj = k1 ∧ o = false) ∨ (k1 ≤ Lj ∧ Lj < j ∧ z Lj = z k1 ∧ (∀ t, Lj < t → t < j → z t ≠ z k1) ∧ o = db Lj)))
              (fun _ _ vj _ => i + 1 - (intOf vj).toNat)
            case atStart => exact ⟨k1, k1, false, Nat.le_refl _, hk1, rfl, rfl, rfl, HTk.out, .inl ⟨rfl, rfl, rfl⟩⟩
            case round =>
              obtain ⟨j, Lj, o, hkj, hji, rfl, rfl, rfl, htj, hq⟩ := hrel
              have HTj := Lib.hid htj
              have HQj := Lib.hid hq
              clear htj hq
              by_cases hjl : j ≤ i
              · have hj0 : (0 : Int) ≤ (j : Int) := by omega
                have hj1 : (j : Int) < (n : Int) := by omega
                have c1 := HKc.out _ HTj.out.ch j (by omega)
                have c2 := HKc.out _ HTj.out.ch k1 hkn
                by_cases hzz : z j = z k1
                · have he1 : ((z j : Int) == (z k1 : Int)) = true := by simp [hzz]
                  have he2 : (z j == z k1) = true := by simp [hzz]
                  have HZz := Lib.hid hzz
                  clear hzz
                  go_wp2
                  go_quiet (fail)
                  clear c1 c2 he1 he2
                  by_cases hdj : j < dl
                  · obtain ⟨bd, od, hda, hbc⟩ := (HBt.out.quiet HTj.out.ch).resolve_left (by omega)
                    subst hda
                    have hbj := hbc j hdj
                    have hb3 : (j : Int) < (dl : Int) := by omega
                    have HDj := Lib.hid (show db j = B j by rw [HDb.out]; simp [hdj])
                    obtain ⟨ob, hob⟩ : ∃ ob, ob = B j := ⟨_, rfl⟩
                    rw [← hob] at hbj HDj
                    clear hob hbc
                    go_wp2
                    go_quiet (fail)
                    go_wp2
                    go_roundw
                    case rel => exact ⟨j + 1, j, ob, by omega, by omega, by go_num, rfl, rfl, HTj.out.quiet ((Ch.refl [] _).drewN _), .inr ⟨hkj, by omega, HZz.out, fun t h1 h2 => by omega, HDj.out.symm⟩⟩
                    case measure => simp [intOf]; omega
                  · have hb3 : ¬ (j : Int) < (dl : Int) := by omega
                    have HDj := Lib.hid (show db j = false by rw [HDb.out]; simp [hdj])
                    go_wp2
                    go_quiet (fail)
                    go_wp2
                    go_roundw
                    case rel => exact ⟨j + 1, j, false, by omega, by omega, by go_num, rfl, rfl, HTj.out.quiet ((Ch.refl [] _).drewN _), .inr ⟨hkj, by omega, HZz.out, fun t h1 h2 => by omega, HDj.out.symm⟩⟩
                    case measure => simp [intOf]; omega
                · have he1 : ((z j : Int) == (z k1 : Int)) = false := by simp; omega
                  have he2 : (z j == z k1) = false := by simp; omega
                  have HZz := Lib.hid hzz
                  clear hzz
                  go_wp2
                  go_quiet (fail)
                  go_wp2
                  go_roundw
                  case rel =>
                    refine ⟨j + 1, Lj, o, by omega, by omega, by go_num, rfl, rfl, HTj.out.quiet ((Ch.refl [] _).drewN _), ?_⟩
                    rcases HQj.out with ⟨rfl, _, _⟩ | ⟨h1, h2, h3, h4, h5⟩
                    · exact absurd rfl HZz.out
                    · refine .inr ⟨h1, by omega, h3, fun t h6 h7 => ?_, h5⟩
                      by_cases e : t = j
                      · subst e; exact HZz.out
                      · exact h4 t h6 (by omega)
                  case measure => simp [intOf]; omega
              · obtain rfl : j = i + 1 := by omega
                obtain ⟨h1, h2, h3, h4, rfl⟩ := HQj.out.resolve_left (fun e => by omega)
                have hval := HQ3.out Lj h2 (fun t h5 h6 => by rw [h3]; exact h4 t h5 h6)
                rw [h3] at hval
                have c2 := HKc.out _ HTj.out.ch k1 hkn
                have hLn : (Lj : Int) < (n : Int) := by omega
                have hLv : (Lj : Int) < (vl : Int) := by omega
                have hL0 : (0 : Int) ≤ (Lj : Int) := by omega
                obtain ⟨o, ho⟩ : ∃ o, o = db Lj := ⟨_, rfl⟩
                rw [← ho] at hval ⊢
                obtain ⟨y, hy⟩ : ∃ y, y = s Lj := ⟨_, rfl⟩
                rw [← hy] at hval
                have HYe := Lib.hid hy
                have HLk := Lib.hid (show Lj < n by omega)
                clear HQj h1 h3 h4 ho hjl hy h2
                cases o with
                | true =>
                  have HG := Lib.hid (HTj.out.get (z k1) (v := []) (b := false) (by rw [hval]; rfl) (by rw [hval]; rfl))
                  clear hval
                  go_wp2_with fail
                  with_reducible refine HG.out.mono ?_
                  rintro e w6 ⟨rfl, hc6⟩
                  have HT6 := Lib.hid (HTj.out.quiet hc6)
                  clear hc6 HG c2
                  go_wp2
                  go_roundw
                  case rel => exact ⟨k1 + 1, by omega, by go_num, HT6.out⟩
                  case measure => simp [intOf]; omega
                | false =>
                  have HG := Lib.hid (HTj.out.get (z k1) (v := y) (b := true) (by rw [hval]; rfl) (by rw [hval]; rfl))
                  clear hval
                  go_wp2_with fail
                  with_reducible refine HG.out.mono ?_
                  rintro e w6 ⟨rfl, hc6⟩
                  have HT6 := Lib.hid (HTj.out.quiet hc6)
                  have c3 := HVc.out _ HT6.out.ch Lj HLk.out
                  rw [← HYe.out] at c3
                  have hyy : (y != y) = false := by simp
                  clear hc6 HG c2
                  go_wp2
                  go_roundw
                  case rel => exact ⟨k1 + 1, by omega, by go_num, HT6.out⟩
                  case measure => simp [intOf]; omega
          · obtain rfl : k1 = i + 1 := by omega
            go_wp2
            go_roundw
            case rel => exact ⟨i + 1, X', by omega, by go_num, HTk.out, hl3, HQ3.out⟩
            case measure => simp [intOf]; omega
    · obtain rfl : i = n := by omega
      go_wp2_with fail
      with_reducible refine (known_any _).mono ?_
      rintro e w2 ⟨rfl, hc2⟩
      have HE := Lib.hid (HT.out.ch.trans hc2)
      clear hc2
      go_wp2_with fail
      go_ret
      exact ⟨rfl, HE.out⟩
end Go.Proofs.Ytaccfjlpojglpaa

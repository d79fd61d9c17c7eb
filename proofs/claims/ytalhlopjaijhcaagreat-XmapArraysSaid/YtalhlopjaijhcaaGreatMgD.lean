/-
  An order of keys of uint64: Touch.
-/
import Derived.Test.YtalhlopjaijhcaaGreatMgC
namespace Go.Proofs.YtalhlopjaijhcaaGreat.oU
open Go.RowKit Go.Maps Go.BigFrame

attribute [local go_sem] Oper.semAt_some

/-- Keys that lie in memory, as a slice shows them. -/
def KAt (w : World) (a : Option Addr) (zs : List K) : Prop := zs = [] ∨ ∃ b off, a = some ⟨b, off, none⟩ ∧ ∀ j k, zs[j]? = some k → w.cell? ⟨b, off + j, none⟩ = some (kv k)
/-- .. in none of these blocks. -/
def NotIn (a : Option Addr) (zs : List K) (S : List Nat) : Prop := zs = [] ∨ ∀ x, a = some x → x.block ∉ S
theorem KAt.ch {w w' : World} {S : List Nat} {a : Option Addr} {zs : List K} (h : KAt w a zs) (hc : Ch S w w') (hn : NotIn a zs S) : KAt w' a zs := by
  rcases h with h | ⟨b, off, rfl, h⟩
  · exact .inl h
  · rcases hn with hn | hn
    · exact .inl hn
    · exact .inr ⟨b, off, rfl, fun j k hk => (hc.cell (p := ⟨b, off + j, none⟩) (cell_lt (h j k hk)) (hn ⟨b, off, none⟩ rfl)).trans (h j k hk)⟩
theorem OR.tick {w : World} {R M room n : Nat} {L : List Ent} (h : OR w R M room n L) : OR (w.setCell ⟨R, 1, none⟩ (.int .u64 ((n : Int) + 1))) R M room (n + 1) L := by
  obtain ⟨D, ho, hv⟩ := h.own
  exact ⟨heap_setCell_same w R 1 _ _ _ h.blk,
    ⟨D, own_chm ho ((Ch.refl [R] w).setCell (p := ⟨R, 1, none⟩) (by simp) _) (by simpa using h.ne.symm), hv⟩, ⟨h.ris.up, fun e he => Nat.le_succ_of_le (h.ris.top e he)⟩, h.hr, h.hl⟩
theorem OR.put {w w' : World} {R M room n m : Nat} {L : List Ent} (h : OR w R M room (n + 1) L) (hr : Ris n L) {k : K} (hk : wfK k) (hl : k ∈ ks L ∨ L.length < room) (hc : Ch [M] w w')
    {D : DataW Value} (hv : Vw D L) (ho : w'.ownsMap Tryz.prog 165 rd M m (D.put (kl k) (.held (rv k ((n + 1 : Nat) : Int))))) : OR w' R M room (n + 1) (wo L k ++ [⟨k, n + 1⟩]) := by
  have hne := h.ne
  have hv2 := hv.put ⟨k, n + 1⟩ hk
  have ho3 := own_tight ho
  rw [hv2.sz] at ho3
  refine ⟨(hc.block R h.lt.1 (by simpa using hne)).trans h.blk, ⟨_, ho3, hv2⟩, hr.put k, h.hr, ?_⟩
  have h1 := h.hl
  rcases hl with hl | hl
  · obtain ⟨e, he, rfl⟩ := ks_mem.1 hl
    have := wo_in hv.nd he
    simp
    omega
  · have : (wo L k).length ≤ L.length := List.length_filter_le _ _
    simp
    omega

theorem touch_nil (v : Value) (w : World) : Calls Tryz.prog 57 #[.pointer none, v] w fun e w' => e = .returned (.int .i64 6) ∧ w' = w := by
  go_enter Tryz.func57, Tryz.ntmps57
  go_wp2_with fail
  go_ret
  exact ⟨rfl, rfl⟩

theorem ks_put (L : List Ent) (k : K) (n : Nat) : ks (wo L k ++ [⟨k, n⟩]) = drp (ks L) k ++ [k] := by
  rw [← ks_wo]; simp [ks]
theorem ks_len (L : List Ent) : (ks L).length = L.length := by simp [ks]
theorem tchs_drop {room j : Nat} {X zs : List K} {k : K} (hk : zs[j]? = some k) : tchs room X (zs.drop j) = if (tch room X k).2 = 0 then tchs room (tch room X k).1 (zs.drop (j + 1)) else tch room X k := by
  obtain ⟨hlt, rfl⟩ := List.getElem?_eq_some_iff.1 hk
  rw [List.drop_eq_getElem_cons hlt]
  rfl

set_option maxRecDepth 100000 in
set_option maxHeartbeats 2000000 in
theorem touch_any {w : World} {R M room n : Nat} {L : List Ent} (h : OR w R M room n L) (a : Option Addr) (cap : Nat) (zs : List K) (hz : KAt w a zs) (hn : NotIn a zs [R, M]) (hwf : ∀ k ∈ zs, wfK k) (hl : n + zs.length ≤ 9223372036854775807) :
    Calls Tryz.prog 57 #[.pointer (some ⟨R, 0, none⟩), .slice a zs.length cap] w fun e w' => ∃ n' L', e = .returned (.int .i64 (((tchs room (ks L) zs).2 : Nat) : Int)) ∧ ks L' = (tchs room (ks L) zs).1 ∧ n' ≤ n + zs.length ∧ OR w' R M room n' L' ∧ Ch [R, M] w w' := by
  obtain ⟨zl, hzl⟩ : ∃ zl, zl = zs.length := ⟨_, rfl⟩
  rw [← hzl] at hl ⊢
  have H := Lib.hid h
  have HZ := Lib.hid hz
  have HN := Lib.hid hn
  have HW := Lib.hid hwf
  have HL := Lib.hid hzl
  have HLt := Lib.hid hl
  have hz63 : zl ≤ 9223372036854775807 := by omega
  clear h hz hn hwf hzl hl
  go_enter Tryz.func57, Tryz.ntmps57
  go_wp2_with fail
  go_loopw [11] (fun jv wr => ∃ (j n' : Nat) (L' : List Ent), j ≤ zl ∧ jv = .int .i64 (j : Int) ∧ n' ≤ n + j ∧ OR wr R M room n' L' ∧ Ch [R, M] w wr ∧ tchs room (ks L) zs = tchs room (ks L') (zs.drop j)) (fun jv _ => zl - (intOf jv).toNat)
  case atStart => exact ⟨0, n, L, Nat.zero_le _, rfl, Nat.le_refl _, H.out, Ch.refl _ _, by simp⟩
  case round =>
    obtain ⟨j, n', L', hj, rfl, hn', hO, hc, he⟩ := hrel
    have HO := Lib.hid hO
    have HC := Lib.hid hc
    have HE := Lib.hid he
    have HN' := Lib.hid hn'
    clear hO hc he hn'
    by_cases hlt : j < zl
    · have hb0 : (0 : Int) ≤ (j : Int) := by omega
      have hb1 : (j : Int) < (zl : Int) := by omega
      obtain ⟨k, hk⟩ : ∃ k, zs[j]? = some k := ⟨_, List.getElem?_eq_getElem (by rw [← HL.out]; exact hlt)⟩
      have HK := Lib.hid hk
      have HWk := Lib.hid (HW.out k (List.mem_of_getElem? hk))
      have HT := Lib.hid (HE.out.trans (tchs_drop hk))
      rcases HZ.out.ch HC.out HN.out with h0 | ⟨b, off, rfl, hcell⟩
      · rw [h0] at hk; simp at hk
      have hck := hcell j k hk
      clear hcell hk
      by_cases hin : k ∈ ks L'
      · have HIn := Lib.hid hin
        have HH := Lib.hid (fun (W : World) (hcw : Ch [] wr W) => (decide_eq_true hin) ▸ has_any (HO.out.quiet hcw) HWk.out)
        have HLen := Lib.hid (fun (W : World) (hcw : Ch [] wr W) => len_any (HO.out.quiet hcw))
        obtain ⟨G, f', hf1, hf2⟩ := worlds_of wr
        have hx0 : ∀ g : G, (f' g).cell? ⟨R, 0, none⟩ = some (.int .i64 (room : Int)) := fun g => (HO.out.quiet (hf1 g)).c0
        have hne : Nonempty G := ⟨(hf2 wr (Ch.refl _ _)).choose⟩
        have HX1 := Lib.hid hf1
        have HX2 := Lib.hid hf2
        clear hf1 hf2 hin
        go_wp2_with fail
        refine wp_region_worlds f' (by kernel_rfl) (by kernel_rfl) (HX2.out _ (Ch.refl [] wr).drew) ?_
        repeat (go_big_quiet_step (first
          | (with_reducible refine (HH.out _ (HX1.out _)).mono ?_; rintro r w' ⟨rfl, hcw⟩; exact ⟨rfl, HX2.out w' ((HX1.out _).trans hcw)⟩)
          | (with_reducible refine (HLen.out _ (HX1.out _)).mono ?_; rintro r w' ⟨rfl, rfl⟩; exact ⟨rfl, _, rfl⟩)))
        refine wpQuiet_nil ?_
        rintro _ ⟨gz, rfl⟩
        have HZ2 := Lib.hid (HX1.out gz)
        generalize f' gz = wz at *
        clear hx0 hne HX1 HX2 HH HLen hck
        have HO2 := Lib.hid (HO.out.quiet HZ2.out)
        have hsum : IntKind.u64.wrap ((n' : Int) + 1) = (n' : Int) + 1 := by
          have := HN'.out
          have := HLt.out
          simp only [IntKind.wrap, IntKind.bits, IntKind.signed]
          simp
          omega
        have r1 := HO2.out.c1
        have f1 := HO2.out.f1
        go_upto_region 9 with (fail)
        obtain ⟨w4, hw4⟩ : ∃ w4, w4 = wz.setCell ⟨R, 1, none⟩ (.int .u64 ((n' : Int) + 1)) := ⟨_, rfl⟩
        rw [← hw4]
        have H4 := Lib.hid (show OR w4 R M room (n' + 1) L' by rw [hw4]; exact HO2.out.tick)
        have HC4 := Lib.hid (show Ch [R] wz w4 by rw [hw4]; exact (Ch.refl [R] wz).setCell (p := ⟨R, 1, none⟩) (by simp) _)
        have HRs := Lib.hid HO2.out.ris
        clear hw4 r1 f1 hsum HO2
        obtain ⟨D, ho, hv⟩ := H4.out.own
        have HV := Lib.hid hv
        obtain ⟨X, hX⟩ : ∃ X : Obj, X = .cells #[kv k, .bool false] 165 := ⟨_, rfl⟩
        obtain ⟨Y, hY⟩ : ∃ Y : Obj, Y = .cells #[.bool true] 4 := ⟨_, rfl⟩
        have g0 := H4.out.c1
        have g1 := H4.out.c2
        have g2 := (H4.out.quiet (((Ch.refl [] w4).alloc X).alloc Y)).c1
        have g3 := (H4.out.quiet (((Ch.refl [] w4).alloc X).alloc Y)).c2
        have hc5 : Ch [] w4 ((w4.alloc X).alloc Y).drew := (((Ch.refl _ _).alloc _).alloc _).drew
        have HC5 := Lib.hid hc5
        obtain ⟨w5, hrun, ho5, ht5⟩ := (own_chm ho hc5 (by simp)).store law Tryz.underlying136 (by have := H4.out.hl; have := H4.out.hr.2; unfold maxLen; omega) (key_of HWk.out) (rd_mk k ((n' + 1 : Nat) : Int))
        have HO5 := Lib.hid ho5
        have HT5 := Lib.hid ht5
        have HPut := Lib.hid (H4.out.put HRs.out HWk.out (.inl HIn.out) ((HC5.out.mono (by simp)).trans (ch_turned ht5)) hv ho5)
        rw [hX, hY] at hrun g2 g3
        rw [show ((n' + 1 : Nat) : Int) = (n' : Int) + 1 from rfl] at hrun
        clear hX hY ho hv ho5 ht5 hc5
        go_region_with (go_at_call 87; refine (place_any k _).mono ?_; rintro e w' ⟨rfl, rfl⟩)
        all_goals clear g0 g1 g2 g3 hrun
        all_goals
          go_wp2
          go_roundw
          case rel =>
            refine ⟨j + 1, n' + 1, _, by omega, by go_num, by have := HN'.out; omega, HPut.out, ?_, ?_⟩
            · exact (HC.out.trans (HZ2.out.mono (by simp))).trans ((HC4.out.mono (by simp)).trans ((HC5.out.mono (by simp)).trans ((ch_turned HT5.out).mono (by simp))))
            · have ht : tch room (ks L') k = (ks (wo L' k ++ [⟨k, n' + 1⟩]), 0) := by unfold tch; rw [if_pos (by rw [ks_len]; exact (.inl HIn.out)), ks_put]
              rw [HT.out, ht]
              rfl
          case measure => simp [intOf]; omega
      · have HIn := Lib.hid hin
        by_cases hfull : L'.length < room
        · have HF := Lib.hid hfull
          have hg : decide (room ≤ L'.length) = false := by simpa using hfull
          clear hfull
          have HH := Lib.hid (fun (W : World) (hcw : Ch [] wr W) => (decide_eq_false hin) ▸ has_any (HO.out.quiet hcw) HWk.out)
          have HLen := Lib.hid (fun (W : World) (hcw : Ch [] wr W) => len_any (HO.out.quiet hcw))
          obtain ⟨G, f', hf1, hf2⟩ := worlds_of wr
          have hx0 : ∀ g : G, (f' g).cell? ⟨R, 0, none⟩ = some (.int .i64 (room : Int)) := fun g => (HO.out.quiet (hf1 g)).c0
          have hne : Nonempty G := ⟨(hf2 wr (Ch.refl _ _)).choose⟩
          have HX1 := Lib.hid hf1
          have HX2 := Lib.hid hf2
          clear hf1 hf2 hin
          go_wp2_with fail
          refine wp_region_worlds f' (by kernel_rfl) (by kernel_rfl) (HX2.out _ (Ch.refl [] wr).drew) ?_
          repeat (go_big_quiet_step (first
            | (with_reducible refine (HH.out _ (HX1.out _)).mono ?_; rintro r w' ⟨rfl, hcw⟩; exact ⟨rfl, HX2.out w' ((HX1.out _).trans hcw)⟩)
            | (with_reducible refine (HLen.out _ (HX1.out _)).mono ?_; rintro r w' ⟨rfl, rfl⟩; exact ⟨rfl, _, rfl⟩)))
          refine wpQuiet_nil ?_
          rintro _ ⟨gz, rfl⟩
          have HZ2 := Lib.hid (HX1.out gz)
          generalize f' gz = wz at *
          clear hx0 hne HX1 HX2 HH HLen hck
          clear hg
          have HO2 := Lib.hid (HO.out.quiet HZ2.out)
          have hsum : IntKind.u64.wrap ((n' : Int) + 1) = (n' : Int) + 1 := by
            have := HN'.out
            have := HLt.out
            simp only [IntKind.wrap, IntKind.bits, IntKind.signed]
            simp
            omega
          have r1 := HO2.out.c1
          have f1 := HO2.out.f1
          go_upto_region 9 with (fail)
          obtain ⟨w4, hw4⟩ : ∃ w4, w4 = wz.setCell ⟨R, 1, none⟩ (.int .u64 ((n' : Int) + 1)) := ⟨_, rfl⟩
          rw [← hw4]
          have H4 := Lib.hid (show OR w4 R M room (n' + 1) L' by rw [hw4]; exact HO2.out.tick)
          have HC4 := Lib.hid (show Ch [R] wz w4 by rw [hw4]; exact (Ch.refl [R] wz).setCell (p := ⟨R, 1, none⟩) (by simp) _)
          have HRs := Lib.hid HO2.out.ris
          clear hw4 r1 f1 hsum HO2
          obtain ⟨D, ho, hv⟩ := H4.out.own
          have HV := Lib.hid hv
          obtain ⟨X, hX⟩ : ∃ X : Obj, X = .cells #[kv k, .bool false] 165 := ⟨_, rfl⟩
          obtain ⟨Y, hY⟩ : ∃ Y : Obj, Y = .cells #[.bool true] 4 := ⟨_, rfl⟩
          have g0 := H4.out.c1
          have g1 := H4.out.c2
          have g2 := (H4.out.quiet (((Ch.refl [] w4).alloc X).alloc Y)).c1
          have g3 := (H4.out.quiet (((Ch.refl [] w4).alloc X).alloc Y)).c2
          have hc5 : Ch [] w4 ((w4.alloc X).alloc Y).drew := (((Ch.refl _ _).alloc _).alloc _).drew
          have HC5 := Lib.hid hc5
          obtain ⟨w5, hrun, ho5, ht5⟩ := (own_chm ho hc5 (by simp)).store law Tryz.underlying136 (by have := H4.out.hl; have := H4.out.hr.2; unfold maxLen; omega) (key_of HWk.out) (rd_mk k ((n' + 1 : Nat) : Int))
          have HO5 := Lib.hid ho5
          have HT5 := Lib.hid ht5
          have HPut := Lib.hid (H4.out.put HRs.out HWk.out (.inr HF.out) ((HC5.out.mono (by simp)).trans (ch_turned ht5)) hv ho5)
          rw [hX, hY] at hrun g2 g3
          rw [show ((n' + 1 : Nat) : Int) = (n' : Int) + 1 from rfl] at hrun
          clear hX hY ho hv ho5 ht5 hc5
          go_region_with (go_at_call 87; refine (place_any k _).mono ?_; rintro e w' ⟨rfl, rfl⟩)
          all_goals clear g0 g1 g2 g3 hrun
          all_goals
            go_wp2
            go_roundw
            case rel =>
              refine ⟨j + 1, n' + 1, _, by omega, by go_num, by have := HN'.out; omega, HPut.out, ?_, ?_⟩
              · exact (HC.out.trans (HZ2.out.mono (by simp))).trans ((HC4.out.mono (by simp)).trans ((HC5.out.mono (by simp)).trans ((ch_turned HT5.out).mono (by simp))))
              · have ht : tch room (ks L') k = (ks (wo L' k ++ [⟨k, n' + 1⟩]), 0) := by unfold tch; rw [if_pos (by rw [ks_len]; exact (.inr HF.out)), ks_put]
                rw [HT.out, ht]
                rfl
            case measure => simp [intOf]; omega
        · have HF := Lib.hid hfull
          have hg : decide (room ≤ L'.length) = true := by simpa using hfull
          clear hfull
          have HH := Lib.hid (fun (W : World) (hcw : Ch [] wr W) => (decide_eq_false hin) ▸ has_any (HO.out.quiet hcw) HWk.out)
          have HLen := Lib.hid (fun (W : World) (hcw : Ch [] wr W) => len_any (HO.out.quiet hcw))
          obtain ⟨G, f', hf1, hf2⟩ := worlds_of wr
          have hx0 : ∀ g : G, (f' g).cell? ⟨R, 0, none⟩ = some (.int .i64 (room : Int)) := fun g => (HO.out.quiet (hf1 g)).c0
          have hne : Nonempty G := ⟨(hf2 wr (Ch.refl _ _)).choose⟩
          have HX1 := Lib.hid hf1
          have HX2 := Lib.hid hf2
          clear hf1 hf2 hin
          go_wp2_with fail
          refine wp_region_worlds f' (by kernel_rfl) (by kernel_rfl) (HX2.out _ (Ch.refl [] wr).drew) ?_
          repeat (go_big_quiet_step (first
            | (with_reducible refine (HH.out _ (HX1.out _)).mono ?_; rintro r w' ⟨rfl, hcw⟩; exact ⟨rfl, HX2.out w' ((HX1.out _).trans hcw)⟩)
            | (with_reducible refine (HLen.out _ (HX1.out _)).mono ?_; rintro r w' ⟨rfl, rfl⟩; exact ⟨rfl, _, rfl⟩)))
          refine wpQuiet_nil ?_
          rintro _ ⟨gz, rfl⟩
          have HZ2 := Lib.hid (HX1.out gz)
          generalize f' gz = wz at *
          clear hx0 hne HX1 HX2 HH HLen hck
          have hd3 : decide ((L'.length : Int) < (room : Int)) = false := by simpa using HF.out
          go_wp2_with fail
          go_ret
          have ht : tch room (ks L') k = (ks L', 3) := by unfold tch; rw [if_neg (by rw [ks_len]; exact fun e => e.elim HIn.out (fun e => HF.out e))]
          rw [HT.out, ht]
          exact ⟨n', L', rfl, rfl, by have := HN'.out; omega, HO.out.quiet HZ2.out, HC.out.trans (HZ2.out.mono (by simp))⟩
    · obtain rfl : j = zl := by omega
      have HT := Lib.hid (HE.out.trans (by rw [List.drop_of_length_le (by rw [← HL.out]; exact Nat.le_refl _)]))
      go_wp2_with fail
      go_ret
      rw [HT.out]
      exact ⟨n', L', rfl, rfl, HN'.out, HO.out, HC.out⟩
end Go.Proofs.YtalhlopjaijhcaaGreat.oU

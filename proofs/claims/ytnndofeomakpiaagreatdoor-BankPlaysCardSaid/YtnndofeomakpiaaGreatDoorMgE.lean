/-
  hold: one more timer.
  Put.
-/
import Derived.Test.YtnndofeomakpiaaGreatDoorMgD
import Derived.Carry
import Derived.Laws.Cover3
namespace Go.Proofs.YtnndofeomakpiaaGreatDoor
open Go.RowKit Go.Maps

attribute [local go_sem] Oper.semAt_some

theorem ne_522 {B : Nat} {s : Nat} (h : s ≠ B) : (⟨s, 0, none⟩ : Addr) ≠ ⟨B, 522, none⟩ := addr_ne_block h
theorem eq_nil (m : Option Nat) (W : World) : (binOp BinOp.eql 102 (.map m) (.map none)).run Tryz.prog W = .ok (.bool m.isNone) W := by
  have h := run_equal_map_nil (P := Tryz.prog) (w := W) 102 3 108 m Tryz.underlying102
  simp [binOp, h, go_sem]
set_option maxRecDepth 100000 in
set_option maxHeartbeats 4000000 in
theorem hold_any {w : World} {base B : Nat} {S : Nat → Prop} {now : Int} {puts : Nat} {L : List Tm} (h : WB w base B S now puts L) {id : Int} (h0 : 0 ≤ id) (h1 : id < 256) (hno : ∀ t ∈ L, t.id ≠ id) {s : Sp} (hf : Fits now s) (hp : puts < 4611686018427387904) :
    Calls Tryz.prog 52 #[.pointer (some ⟨B, 0, none⟩), .int .i64 id, spV s] w fun e w' => e = .returned (.tuple #[]) ∧ WB w' base B (fun k => S k ∨ (w.heap.size ≤ k ∧ k < w'.heap.size)) now (puts + 1) (L ++ [⟨id, s, puts⟩]) ∧ ChP S w w' := by
  have HP := Lib.hid hp
  have HF := Lib.hid hf
  have HWI := Lib.hid (h.wi.put h0 h1 hno hf)
  have HNo := Lib.hid hno
  have HLen := Lib.hid h.wi.len
  have hB := h.hi B h.own
  have hbase : base ≤ w.heap.size := Nat.le_trans (h.wc.lo B h.own) (Nat.le_of_lt hB)
  have HHi := Lib.hid h.hi
  obtain ⟨lv, sl0, at', due⟩ := s
  have hsl := hf.sl
  have hlv := hf.lv
  obtain ⟨σ, hσ⟩ := Int.eq_ofNat_of_zero_le hsl.1
  simp only [] at hσ hsl hlv
  subst hσ
  have hs64 : σ < 64 := by omega
  obtain ⟨Y, hY⟩ : ∃ Y : Obj, Y = .cells #[.int .i64 (lv : Int), .int .i64 (σ : Int), .int .u64 at', .int .u64 due] 40 := ⟨_, rfl⟩
  have hCw : ChP S w (w.alloc Y) := (ChP.refl _ _).alloc _
  have hF : Four (w.alloc Y) w.heap.size (.int .i64 (lv : Int)) (.int .i64 (σ : Int)) (.int .u64 at') (.int .u64 due) := by rw [hY]; exact Four.new w (.int .i64 (lv : Int)) (.int .i64 (σ : Int)) (.int .u64 at') (.int .u64 due) 40
  have hC1 : WC (w.alloc Y) base B (fun k => S k ∨ w.heap.size < k) now puts L L L := (h.wc.more (T := fun k => S k ∨ w.heap.size < k) (fun k _ hk => .inl hk) (fun k hk => by rcases hk with hk | hk; exact h.wc.lo k hk; omega)).frame (T := fun _ => False) (.quiet ((Ch.refl [] w).alloc _)) (fun _ _ _ h => h)
  obtain ⟨W0, hW0⟩ : ∃ W0, W0 = w.alloc Y := ⟨_, rfl⟩
  have hsz : W0.heap.size = w.heap.size + 1 := by rw [hW0]; simp
  rw [← hW0] at hCw hF hC1
  obtain ⟨m, c5, hh, hm⟩ := hC1.held
  have HSz := Lib.hid hsz
  have HFW := Lib.hid hF
  cases m with
  | none =>
    obtain rfl : L = [] := by
      rcases hh with ⟨_, e⟩ | ⟨b, D, e, _⟩
      · exact e
      · cases e
    obtain ⟨W3, hW3⟩ : ∃ W3, W3 = ((w.setCell ⟨B, 522, none⟩ (.map (some (w.heap.size + 1)))).alloc Y).alloc (.map #[] 0) := ⟨_, rfl⟩
    obtain ⟨b, hbb⟩ : ∃ b, b = w.heap.size + 1 := ⟨_, rfl⟩
    have hq : ChP (fun k => k = B) w W3 := by rw [hW3]; exact ((chB w 522 _).alloc Y).alloc _
    have hcc : ∀ o, o ≠ 522 → W3.cell? ⟨B, o, none⟩ = w.cell? ⟨B, o, none⟩ := fun o hoo => by
      rw [hW3, World.cell?_alloc_lt _ _ _ (by simp; omega), World.cell?_alloc_lt _ _ _ (by simpa using hB)]
      exact World.cell?_setCell_other _ _ _ _ (addr_ne_off (fun e => hoo e.symm))
    have hcw : w.cell? ⟨B, 522, none⟩ = some (.map none) := by rw [hW0, World.cell?_alloc_lt _ _ _ hB] at c5; exact c5
    have c53 : W3.cell? ⟨B, 522, none⟩ = some (.map (some b)) := by
      rw [hW3, World.cell?_alloc_lt _ _ _ (by simp; omega), World.cell?_alloc_lt _ _ _ (by simpa using hB), hbb]
      exact setCell_same hcw
    have hff : ∀ o, W3.frozen? ⟨B, o, none⟩ = w.frozen? ⟨B, o, none⟩ := fun o => by
      rw [hW3, World.frozen?_alloc_old _ _ _ (by simp; omega), World.frozen?_alloc_old _ _ _ (by simp; omega), World.frozen?_setCell]
    have hom : HeldAt W3 (some b) [] := by
      refine .inr ⟨b, .map [], rfl, ?_, Vw.empty⟩
      have := World.ownsMap_made ((w.setCell ⟨B, 522, none⟩ (.map (some (w.heap.size + 1)))).alloc Y) Tryz.prog 3 rd
      rw [hW3, hbb]
      simpa using this
    have hWC := (h.wc.more (T := fun k => S k ∨ w.heap.size < k) (fun k _ hk => .inl hk) (fun k hk => by rcases hk with hk | hk; exact h.wc.lo k hk; omega)).map0 hq hcc hff c53 hom ⟨.inr (by omega), by omega, by omega⟩
    have HC3 := Lib.hid hWC
    have HCw3 := Lib.hid (hq.mono (fun k hk => by rw [hk]; exact h.own) : ChP S w W3)
    have HF3 := Lib.hid (show Four W3 w.heap.size (.int .i64 (lv : Int)) (.int .i64 (σ : Int)) (.int .u64 at') (.int .u64 due) by
      have := Four.new (w.setCell ⟨B, 522, none⟩ (.map (some (w.heap.size + 1)))) (.int .i64 (lv : Int)) (.int .i64 (σ : Int)) (.int .u64 at') (.int .u64 due) 40
      rw [← hY, show (w.setCell ⟨B, 522, none⟩ (.map (some (w.heap.size + 1)))).heap.size = w.heap.size by simp [World.setCell]] at this
      rw [hW3]
      exact this.ch ((Ch.refl [] _).alloc _) (by simp))
    have HS3 := Lib.hid (show w.heap.size < W3.heap.size by rw [hW3]; simp [World.setCell]; omega)
    have HH := Lib.hid hom
    have HB5 := Lib.hid c53
    have fr5 := hC1.fr 522
    have hmm := @run_makeMap Tryz.prog
    have hne := World.new_ne W0 _ c5
    clear hp hf hno h hCw hF hC1 hh hm hsz hWC hom hff c53 hcw hcc hq
    rw [hW0, hY] at c5 fr5 hne
    have heq := fun W => eq_nil none W
    unfold spV
    go_enter Tryz.func52, Tryz.ntmps52
    go_wp2_with fail
    rw [← hY, ← hW3]
    clear hY hW0 hW3 HFW c5 fr5 hne heq hmm HSz hbb
    rcases HH.out with ⟨e, _⟩ | ⟨b', D, e, ho, hv⟩
    · cases e
    obtain rfl : b' = b := by simpa using e.symm
    obtain ⟨w5, hrun, ho5, ht5⟩ := (map_chP ho ((ChP.refl (fun _ => False) W3).drew) (fun h => h)).store keyed Tryz.underlying102 (by have := HLen.out; unfold maxLen; omega) (key_of (wf_small h0 h1)) (rd_mk ⟨lv, (σ : Int), at', due⟩ puts)
    have HH5 := Lib.hid (show HeldAt w5 (some b') (([] : List Tm) ++ [⟨id, ⟨lv, (σ : Int), at', due⟩, puts⟩]) from .inr ⟨b', _, rfl, by simpa using ho5, hv.put ⟨id, ⟨lv, (σ : Int), at', due⟩, puts⟩ HNo.out⟩)
    have hcd : ChP (fun _ => False) W3 W3.drew := (ChP.refl _ W3).drew
    have HC5 := Lib.hid ((HC3.out.frame hcd (fun _ _ _ h => h)).map HB5.out HH5.out ht5)
    have HCd5 := Lib.hid (hcd.mono (T := fun k => k = b') (fun _ h => h.elim) |>.trans (chP_turned ht5))
    have r5 := HB5.out
    have r1 := HC3.out.c1
    obtain ⟨s0, s1, s2, s3⟩ := HF3.out
    have hnB : ¬ B = b' := fun e => by
      obtain ⟨m, k5, _, k7⟩ := HC3.out.held
      obtain rfl : m = some b' := by rw [HB5.out] at k5; simpa using k5.symm
      exact (k7 b' rfl).2.1 e.symm
    have hnY : ¬ w.heap.size = b' := fun e => by
      obtain ⟨es, clock, hb, _⟩ := ho
      rw [e] at s0
      simp [World.cell?, hb] at s0
    have HTb := Lib.hid (show (S b' ∨ w.heap.size < b') from by
      obtain ⟨m, k5, _, k7⟩ := HC3.out.held
      obtain rfl : m = some b' := by rw [HB5.out] at k5; simpa using k5.symm
      exact (k7 b' rfl).1)
    have HCc5 := Lib.hid (fun (o : Nat) => HCd5.out.cell (p := ⟨w.heap.size, o, none⟩) HS3.out hnY)
    have g5 : w5.cell? ⟨B, 522, none⟩ = some (.map (some b')) := (HCd5.out.cell (p := ⟨B, 522, none⟩) (cell_lt r5) hnB).trans r5
    have g1 : w5.cell? ⟨B, 1, none⟩ = some (.int .u64 (puts : Int)) := (HCd5.out.cell (p := ⟨B, 1, none⟩) (cell_lt r1) hnB).trans r1
    have q0 := (HCc5.out 0).trans s0
    have q1 := (HCc5.out 1).trans s1
    have q2 := (HCc5.out 2).trans s2
    have q3 := (HCc5.out 3).trans s3
    have hbt : Tryz.prog.built 108 [(0, .agg #[.int .i64 (lv : Int), .int .i64 (σ : Int), .int .u64 at', .int .u64 due]), (1, .int .u64 (puts : Int))] = some #[.int .i64 (lv : Int), .int .i64 (σ : Int), .int .u64 at', .int .u64 due, .int .u64 (puts : Int)] := by kernel_rfl
    unfold rv at hrun
    clear e ho hv ho5 hcd ht5 hnB hnY
    go_region_held3 (fun w' => w'.cell? ⟨B, 522, none⟩ = some (.map (some b')) ∧ w'.cell? ⟨B, 1, none⟩ = some (.int .u64 (puts : Int)) ∧ w'.cell? ⟨w.heap.size, 0, none⟩ = some (.int .i64 (lv : Int)) ∧ w'.cell? ⟨w.heap.size, 1, none⟩ = some (.int .i64 (σ : Int)) ∧ w'.cell? ⟨w.heap.size, 2, none⟩ = some (.int .u64 at') ∧ w'.cell? ⟨w.heap.size, 3, none⟩ = some (.int .u64 due)) (go_keep) (fail)
    have fr1 := HC5.out.fr 1
    have hwp : IntKind.u64.wrap ((puts : Int) + 1) = ((puts + 1 : Nat) : Int) := by have := HP.out; rw [IntKind.wrap_u64]; omega
    clear hrun hbt r5 r1 s0 s1 s2 s3 g5
    go_wp2_with fail
    rw [show (puts : Int) + 1 = ((puts + 1 : Nat) : Int) by omega]
    have HC6 := Lib.hid (HC5.out.set1 (puts + 1))
    have hne : ¬ w.heap.size = B := by omega
    have q0 := setCell_other (u := .int .u64 ((puts + 1 : Nat) : Int)) q0 (p := ⟨B, 1, none⟩) (addr_ne_block (fun e => hne e.symm))
    have q1 := setCell_other (u := .int .u64 ((puts + 1 : Nat) : Int)) q1 (p := ⟨B, 1, none⟩) (addr_ne_block (fun e => hne e.symm))
    have q2 := setCell_other (u := .int .u64 ((puts + 1 : Nat) : Int)) q2 (p := ⟨B, 1, none⟩) (addr_ne_block (fun e => hne e.symm))
    have q3 := setCell_other (u := .int .u64 ((puts + 1 : Nat) : Int)) q3 (p := ⟨B, 1, none⟩) (addr_ne_block (fun e => hne e.symm))
    have HCB := Lib.hid (HCd5.out.mono (T := fun k => k = b' ∨ k = B) (fun k e => .inl e) |>.trans ((chB (B := B) w5 1 (.int .u64 ((puts + 1 : Nat) : Int))).mono (fun k e => .inr e)))
    generalize w5.setCell ⟨B, 1, none⟩ (.int .u64 ((puts + 1 : Nat) : Int)) = W6 at *
    clear g1 hwp fr1 HC5 HH5 HCd5 HCc5
    have i0 : (0 : Int) ≤ (lv : Int) := by omega
    have i1 : (lv : Int) < 8 := by omega
    have i2 : (0 : Int) ≤ (σ : Int) := by omega
    have i3 : (σ : Int) < 64 := by omega
    go_region_held3 (fun w' => w'.cell? ⟨w.heap.size, 0, none⟩ = some (.int .i64 (lv : Int)) ∧ w'.cell? ⟨w.heap.size, 1, none⟩ = some (.int .i64 (σ : Int))) (go_keep) (fail)
    have HC7 := Lib.hid (HC6.out.frame (T := fun _ => False) ((ChP.refl _ W6).drew) (fun _ _ _ h => h))
    have HCB7 := Lib.hid (HCB.out.drew)
    have q0 : W6.drew.cell? ⟨w.heap.size, 0, none⟩ = _ := q0
    have q1 : W6.drew.cell? ⟨w.heap.size, 1, none⟩ = _ := q1
    have q2 : W6.drew.cell? ⟨w.heap.size, 2, none⟩ = _ := q2
    have q3 : W6.drew.cell? ⟨w.heap.size, 3, none⟩ = _ := q3
    clear HC6 HCB
    generalize W6.drew = W7 at *
    have HQ := Lib.hid (show Four W7 w.heap.size _ _ _ _ from ⟨q0, q1, q2, q3⟩)
    obtain ⟨vs, hv1, hv2⟩ := HC7.out.slots
    have hi : lv * 64 + σ < 512 := by omega
    obtain ⟨hvc, hvr, hvo⟩ := hv1 (lv * 64 + σ) hi
    rw [show 2 + (lv * 64 + σ) = 2 + lv * 64 + σ by omega] at hvc
    generalize vs (lv * 64 + σ) = v0 at *
    have HVc := Lib.hid hvc
    have HSl := Lib.hid (Nat.le_trans (inSlot_len (L := ([] : List Tm)) (lv * 64 + σ)) HLen.out)
    obtain ⟨nn, hnn⟩ : ∃ nn, nn = (inSlot ([] : List Tm) (lv * 64 + σ)).length := ⟨_, rfl⟩
    rw [← hnn] at hvr HSl
    have HNn := Lib.hid hnn
    obtain ⟨j0, hj, hz0, hz1, hz2⟩ := iinfo
    have HbW := Lib.hid (show base ≤ W7.heap.size by have h1 := HS3.out; have h2 := HCB7.out.size; omega)
    have hfz := HC7.out.fr (2 + lv * 64 + σ)
    have HBne := Lib.hid (fun g hg => (hvo g hg).2)
    have HVo := Lib.hid (fun g hg => (hvo g hg).1)
    have hnw := World.new_ne W7 _ hvc
    have HFin := Lib.hid (fun (v' : Value) (w8 : World) (hown : w8.ownsRow base 3 1 v' (nn + 1) ((inSlot ([] : List Tm) (lv * 64 + σ)).map iv ++ [.int .i64 id])) (hg : (W7.alloc (.cells #[.int .i64 id] 3)).grownBy w8 v0.ownBlock) (hat : v'.ownBlock = v0.ownBlock ∨ v'.ownBlock = some (W7.heap.size + 1)) =>
      show w8.cell? ⟨B, 2 + lv * 64 + σ, none⟩ = some v0 ∧ w8.frozen? ⟨B, 2 + lv * 64 + σ, none⟩ = false ∧ WC (w8.setCell ⟨B, 2 + lv * 64 + σ, none⟩ v') base B (fun k => S k ∨ w.heap.size < k) now (puts + 1) (([] : List Tm) ++ [⟨id, ⟨lv, (σ : Int), at', due⟩, puts⟩]) (([] : List Tm) ++ [⟨id, ⟨lv, (σ : Int), at', due⟩, puts⟩]) ([] : List Tm) ∧
        ChP (fun k => k = B ∨ v0.ownBlock = some k) W7 (w8.setCell ⟨B, 2 + lv * 64 + σ, none⟩ v') from by
      have hc : ChP (fun k => v0.ownBlock = some k) W7 w8 := ((ChP.refl _ W7).alloc _).trans (.grown hg (fun r e => e))
      have hlt : B < W7.heap.size := cell_lt HVc.out
      have hBv : ¬ v0.ownBlock = some B := fun e => HBne.out B e rfl
      have hsn := inSlot_snoc ([] : List Tm) ⟨id, ⟨lv, (σ : Int), at', due⟩, puts⟩
      have hsz := HS3.out
      have hsz2 := HCB7.out.size
      refine ⟨(hc.cell hlt hBv).trans HVc.out, (hc.frozen (p := ⟨B, 2 + lv * 64 + σ, none⟩) hlt hBv).trans (HC7.out.fr _), ?_, (hc.mono (fun k e => .inr e)).trans ((chB w8 _ v').mono (fun k e => .inl e))⟩
      have key := HC7.out.slot hi (v' := v') (L := ([] : List Tm) ++ [⟨id, ⟨lv, (σ : Int), at', due⟩, puts⟩]) (by rw [show 2 + (lv * 64 + σ) = 2 + lv * 64 + σ by omega]; exact HVc.out) hc (by
        rw [hsn, if_pos (by simp only []; omega), List.length_append, List.map_append, ← HNn.out]
        exact hown) (fun g hgg => by
          rcases hat with e | e
          · rw [e] at hgg
            refine ⟨?_, .inl hgg⟩
            obtain ⟨vs', k1, _⟩ := HC7.out.slots
            obtain ⟨k2, _, k3⟩ := k1 _ hi
            rw [show 2 + (lv * 64 + σ) = 2 + lv * 64 + σ by omega, HVc.out] at k2
            cases k2
            exact (k3 g hgg).1
          · rw [e] at hgg
            cases hgg
            exact ⟨.inr (by omega), .inr (by omega)⟩) (fun j hj hne => by
          rw [hsn, if_neg (by simp only []; omega), List.append_nil])
      rwa [show 2 + (lv * 64 + σ) = 2 + lv * 64 + σ by omega] at key)
    clear hv1 hv2 hvo hnn q0 q1 q2 q3 HC7
    go_wp2_with (first
      | (at_builtin; refine wpList_append_own_at _ rfl _ _ 24 rfl base 3 j0 (.int .i64 0) 1 8 Tryz.underlying24 hj hz0 hz1 hz2 rfl (by decide) v0 nn _ rfl (hvr.alloc _) ⟨W7.heap.size, 0, none⟩ 1 1 [.int .i64 id] rfl rfl (One.new W7 (.int .i64 id) 3).news (by simp [Value.oneCell']) (by have := HSl.out; unfold maxLen; omega) (by have := HSl.out; omega) (by have := HbW.out; simp; omega) ?_; intro v' w8 hown8 hg8 hnil8 hat8; obtain ⟨aa, cc, rfl⟩ := own_form hown8; obtain ⟨k1, k2, k3, k4⟩ := HFin.out _ w8 hown8 hg8 (by simpa using hat8); have HK3 := Lib.hid k3; have HK4 := Lib.hid k4; clear k3 k4 hown8 hg8 hnil8 hat8; go_frame)
      | fail)
    generalize w8.setCell ⟨B, 2 + lv * 64 + σ, none⟩ (Value.slice aa (nn + 1) cc) = W9 at *
    obtain ⟨M, hMc, hMB⟩ := HK3.out.masks
    have hMlt : ∀ n, n < 8 → M n < 18446744073709551616 := fun n hn => (hMB n hn).1
    have hQ9 : W9.rangeAt w.heap.size 0 [.int .i64 (lv : Int), .int .i64 (σ : Int), .int .u64 at', .int .u64 due] := by
      have hlt := HS3.out
      have hsz := HCB7.out.size
      have hc := HK4.out
      have hn : ¬ (w.heap.size = B ∨ v0.ownBlock = some w.heap.size) := by
        rintro (e | e)
        · omega
        · rcases HVo.out _ e with k | k
          · have := HHi.out _ k; omega
          · omega
      have hl7 : w.heap.size < W7.heap.size := by omega
      intro j v hv
      rw [Nat.zero_add]
      refine (hc.cell (p := ⟨w.heap.size, j, none⟩) hl7 hn).trans ?_
      match j, hv with
      | 0, hv => cases hv; exact HQ.out.c0
      | 1, hv => cases hv; exact HQ.out.c1
      | 2, hv => cases hv; exact HQ.out.c2
      | 3, hv => cases hv; exact HQ.out.c3
    have hM9 : W9.rangeAt B 514 (ml M) := ml_range hMc
    have HMB := Lib.hid hMB
    have HWS := Lib.hid (fun W => with_spot hMlt hlv (σ : Int) at' due W)
    obtain ⟨U, hU⟩ : ∃ U, U = updM M lv (Mk.withN (M lv) [(σ : Int)]) := ⟨_, rfl⟩
    rw [← hU] at HWS
    have HU := Lib.hid hU
    unfold mv at HWS
    have HKeep := Lib.hid (fun (w' : World) (hc : Ch [] W9.drew w') => show (w'.rangeAt B 514 (ml M) ∧ w'.rangeAt w.heap.size 0 [.int .i64 (lv : Int), .int .i64 (σ : Int), .int .u64 at', .int .u64 due]) ∧ w'.there B 514 8 ∧ WC w' base B (fun k => S k ∨ w.heap.size < k) now (puts + 1) (([] : List Tm) ++ [⟨id, ⟨lv, (σ : Int), at', due⟩, puts⟩]) (([] : List Tm) ++ [⟨id, ⟨lv, (σ : Int), at', due⟩, puts⟩]) ([] : List Tm) from by
      have hc : ChP (fun _ => False) W9 w' := (ChP.refl _ W9).drew.trans (.quiet hc)
      have hlB := cell_lt (hMc 0 (by decide))
      have hlY := cell_lt (hQ9 0 _ rfl)
      exact ⟨⟨fun j v hv => (hc.cell (p := ⟨B, 514 + j, none⟩) hlB (fun h => h)).trans (hM9 j v hv), fun j v hv => (hc.cell (p := ⟨w.heap.size, 0 + j, none⟩) hlY (fun h => h)).trans (hQ9 j v hv)⟩,
        ml_there (fun n hn => (hc.cell (p := ⟨B, 514 + n, none⟩) hlB (fun h => h)).trans (hMc n hn)) (fun o => (hc.frozen (p := ⟨B, o, none⟩) hlB (fun h => h)).trans (HK3.out.fr o)), HK3.out.frame hc (fun _ _ _ h => h)⟩)
    have hMD : W9.drew.rangeAt B 514 (ml M) := hM9
    have hQD : W9.drew.rangeAt w.heap.size 0 [.int .i64 (lv : Int), .int .i64 (σ : Int), .int .u64 at', .int .u64 due] := hQ9
    clear hMc hMB hMlt hU k1 k2 hfz hnw hM9 hQ9
    refine wp_region_noPanic ?_
    refine wp_region_lastL _ (by kernel_rfl) rfl (by kernel_rfl) (fun w' => (w'.rangeAt B 514 (ml M) ∧ w'.rangeAt w.heap.size 0 [.int .i64 (lv : Int), .int .i64 (σ : Int), .int .u64 at', .int .u64 due])) ⟨hMD, hQD⟩ (fun hHeld => ?_)
    simp only [List.dropLast_cons_cons, List.dropLast_singleton, List.length_cons, List.length_nil]
    refine wpAnyH_take (i := 0) (v := ?v1_0) rfl (by kernel_rfl) (by kernel_rfl) (by kernel_rfl) (fun _ _ _ h => h) (Or.inl ⟨by rfl, ?y1_0⟩) (by assumption) ?_
    case y1_0 => intro w hSw; obtain ⟨s0, s1⟩ := hSw; go_simp; try with_reducible rfl
    try simp only [Act.put, List.getElem_toArray, List.getElem_cons_zero, List.setIfInBounds_toArray, List.set_cons_zero, List.set_cons_succ]
    refine wpAnyH_take (i := 1) (v := ?v1_1) rfl (by kernel_rfl) (by kernel_rfl) (by kernel_rfl) (fun _ _ _ h => h) (Or.inl ⟨by rfl, ?y1_1⟩) (by assumption) ?_
    case y1_1 => intro w hSw; obtain ⟨s0, s1⟩ := hSw; go_simp; try with_reducible rfl
    try simp only [Act.put, List.getElem_toArray, List.getElem_cons_succ, List.getElem_cons_zero, List.setIfInBounds_toArray, List.set_cons_zero, List.set_cons_succ]
    refine wpAnyH_take (i := 2) (v := ?v1_2) rfl (by kernel_rfl) (by kernel_rfl) (by kernel_rfl) (fun _ _ _ h => h) (Or.inl ⟨by rfl, ?y1_2⟩) (by assumption) ?_
    case y1_2 => intro w hSw; obtain ⟨s0, s1⟩ := hSw; go_simp; try with_reducible rfl
    try simp only [Act.put, List.getElem_toArray, List.getElem_cons_succ, List.getElem_cons_zero, List.setIfInBounds_toArray, List.set_cons_zero, List.set_cons_succ]
    refine wpAnyH_take (i := 3) (v := ?v1_3) rfl (by kernel_rfl) (by kernel_rfl) (by kernel_rfl) (fun _ _ _ h => h) (Or.inl ⟨by rfl, ?y1_3⟩) (by assumption) ?_
    case y1_3 => intro w hSw; obtain ⟨s0, s1⟩ := hSw; go_simp; try with_reducible rfl
    try simp only [Act.put, List.getElem_toArray, List.getElem_cons_succ, List.getElem_cons_zero, List.setIfInBounds_toArray, List.set_cons_zero, List.set_cons_succ]
    refine wpAnyH_take (i := 4) (v := .agg (ml M).toArray) rfl (by kernel_rfl) (by kernel_rfl) (by kernel_rfl) (fun _ _ _ h => h) (yieldsIf_load_mid rfl 101 (.tmp 54) rfl B 514 rfl (ml M) _ (fun _ h => h.1) Tryz.underlying101 rfl (by kernel_rfl)) (by assumption) ?_
    try simp only [Act.put, List.getElem_toArray, List.getElem_cons_succ, List.getElem_cons_zero, List.setIfInBounds_toArray, List.set_cons_zero, List.set_cons_succ]
    refine wpAnyH_take (i := 5) (v := .agg ([.int .i64 (lv : Int), .int .i64 (σ : Int), .int .u64 at', .int .u64 due]).toArray) rfl (by kernel_rfl) (by kernel_rfl) (by kernel_rfl) (fun _ _ _ h => h) (yieldsIf_load_mid rfl 40 (.tmp 5) rfl w.heap.size 0 rfl ([.int .i64 (lv : Int), .int .i64 (σ : Int), .int .u64 at', .int .u64 due]) _ (fun _ h => h.2) Tryz.underlying40 rfl (by kernel_rfl)) (by assumption) ?_
    try simp only [Act.put, List.getElem_toArray, List.getElem_cons_succ, List.getElem_cons_zero, List.setIfInBounds_toArray, List.set_cons_zero, List.set_cons_succ]
    unfold ml
    refine wpAnyH_ready (rs := [6]) (by kernel_rfl) (by simp) ?_
    refine AllReadyH.cons rfl (fun K hK => ?_) AllReadyH.nil
    go_simp
    refine (HWS.out _).mono ?_
    rintro e w10 ⟨rfl, hc10⟩
    obtain ⟨K10, T10, C10⟩ := HKeep.out w10 hc10
    have HC10 := Lib.hid hc10
    have HC11 := Lib.hid C10
    clear hc10 C10
    try go_simp
    refine hK.out _ _ K10 (fun hHeld => ?_)
    clear hK K
    try simp only [Act.put, List.getElem_toArray, List.getElem_cons_succ, List.getElem_cons_zero, List.setIfInBounds_toArray, List.set_cons_zero, List.set_cons_succ]
    refine wpAnyH_take (i := 7) (v := ?v1_7) rfl (by kernel_rfl) (by kernel_rfl) (by kernel_rfl) (fun _ _ _ h => h) (Or.inl ⟨by rfl, ?y1_7⟩) (by assumption) ?_
    case y1_7 => intro w hSw; obtain ⟨s0, s1⟩ := hSw; go_simp; try with_reducible rfl
    try simp only [Act.put, List.getElem_toArray, List.getElem_cons_succ, List.getElem_cons_zero, List.setIfInBounds_toArray, List.set_cons_zero, List.set_cons_succ]
    refine wpAnyH_take (i := 8) (v := ?v1_8) rfl (by kernel_rfl) (by kernel_rfl) (by kernel_rfl) (fun _ _ _ h => h) (Or.inl ⟨by rfl, ?y1_8⟩) (by assumption) ?_
    case y1_8 => intro w hSw; obtain ⟨s0, s1⟩ := hSw; go_simp; try with_reducible rfl
    try simp only [Act.put, List.getElem_toArray, List.getElem_cons_succ, List.getElem_cons_zero, List.setIfInBounds_toArray, List.set_cons_zero, List.set_cons_succ]
    refine wpAnyH_done (by kernel_rfl) ?_ _
    unfold lastPost
    simp only []
    refine wp_store_mid 101 (.tmp 59) (.tmp 57) rfl B 514 (ml U).toArray rfl rfl T10 (by kernel_rfl) (all_oneCell_toArray (by simp [ml, Value.oneCell'])) ?_
    refine NoPanic.normal ?_
    rw [show (ml U).toArray.toList = ml U from rfl]
    have hfin := HC11.out.masks8 (M := U) (L := ([] : List Tm) ++ [⟨id, ⟨lv, (σ : Int), at', due⟩, puts⟩]) (by rw [HU.out]; exact HMB.out.snoc ⟨id, ⟨lv, (σ : Int), at', due⟩, puts⟩ HF.out)
    have hch : ChP (fun k => S k ∨ w.heap.size < k) w (set8 w10 B U) := by
      have h1 := HCw3.out.mono (T := fun k => S k ∨ w.heap.size < k) (fun k hk => .inl hk)
      have hTB := hfin.own
      have h2 := HCB7.out.mono (T := fun k => S k ∨ w.heap.size < k) (fun k hk => by
        rcases hk with rfl | rfl
        · obtain ⟨m, _, _, k7⟩ := hfin.held
          exact HTb.out
        · exact hTB)
      have h3 := HK4.out.mono (T := fun k => S k ∨ w.heap.size < k) (fun k hk => by
        rcases hk with rfl | hk
        · exact hTB
        · exact HVo.out k hk)
      have h4 := ((ChP.refl (fun k => S k ∨ w.heap.size < k) W9).drew).trans (.quiet HC10.out)
      exact ((((h1.trans h2).trans h3).trans h4).trans ((set8_chP w10 B U).mono (fun k hk => by rw [hk]; exact hTB)))
    have hchS : ChP S w (set8 w10 B U) := (ChP.refl S w).fresh hch (fun k hk => by rcases hk with hk | hk; exact .inl hk; exact .inr (by omega))
    rw [show w10.setCells B 514 (ml U) = set8 w10 B U from rfl]
    generalize set8 w10 B U = W12 at *
    have HF1 := Lib.hid hfin
    have HF2 := Lib.hid hchS
    clear hfin hch hchS
    try simp only [Act.put]
    go_end0
    refine ⟨rfl, ⟨HWI.out, HF1.out.more (fun k hk1 hk => ?_) (fun k hk => ?_), fun k hk => ?_⟩, HF2.out⟩
    · rcases hk with hk | hk
      · exact .inl hk
      · exact .inr ⟨by omega, hk1⟩
    · rcases hk with hk | hk
      · exact HF1.out.lo k (.inl hk)
      · omega
    · rcases hk with hk | hk
      · exact Nat.lt_of_lt_of_le (HHi.out k hk) HF2.out.size
      · exact hk.2
  | some b =>
    obtain ⟨W3, hW3⟩ : ∃ W3, W3 = W0 := ⟨_, rfl⟩
    have HC3 := Lib.hid (hW3 ▸ hC1)
    have HCw3 := Lib.hid (hW3 ▸ hCw)
    have HF3 := Lib.hid (hW3 ▸ hF)
    have HS3 := Lib.hid (show w.heap.size < W3.heap.size by rw [hW3]; omega)
    have HH := Lib.hid (hW3 ▸ hh)
    have HB5 := Lib.hid (hW3 ▸ c5)
    clear hp hf hno h hCw hF hC1 hh hm hsz
    rw [hW0, hY] at c5
    have heq := fun W => eq_nil (some b) W
    unfold spV
    go_enter Tryz.func52, Tryz.ntmps52
    go_wp2_with fail
    rw [← hY, ← hW0, ← hW3]
    clear hY hW0 hW3 HFW c5 heq HSz
    rcases HH.out with ⟨e, _⟩ | ⟨b', D, e, ho, hv⟩
    · cases e
    obtain rfl : b' = b := by simpa using e.symm
    obtain ⟨w5, hrun, ho5, ht5⟩ := (map_chP ho ((ChP.refl (fun _ => False) W3).drew) (fun h => h)).store keyed Tryz.underlying102 (by have := HLen.out; unfold maxLen; omega) (key_of (wf_small h0 h1)) (rd_mk ⟨lv, (σ : Int), at', due⟩ puts)
    have HH5 := Lib.hid (show HeldAt w5 (some b') (L ++ [⟨id, ⟨lv, (σ : Int), at', due⟩, puts⟩]) from .inr ⟨b', _, rfl, by simpa using ho5, hv.put ⟨id, ⟨lv, (σ : Int), at', due⟩, puts⟩ HNo.out⟩)
    have hcd : ChP (fun _ => False) W3 W3.drew := (ChP.refl _ W3).drew
    have HC5 := Lib.hid ((HC3.out.frame hcd (fun _ _ _ h => h)).map HB5.out HH5.out ht5)
    have HCd5 := Lib.hid (hcd.mono (T := fun k => k = b') (fun _ h => h.elim) |>.trans (chP_turned ht5))
    have r5 := HB5.out
    have r1 := HC3.out.c1
    obtain ⟨s0, s1, s2, s3⟩ := HF3.out
    have hnB : ¬ B = b' := fun e => by
      obtain ⟨m, k5, _, k7⟩ := HC3.out.held
      obtain rfl : m = some b' := by rw [HB5.out] at k5; simpa using k5.symm
      exact (k7 b' rfl).2.1 e.symm
    have hnY : ¬ w.heap.size = b' := fun e => by
      obtain ⟨es, clock, hb, _⟩ := ho
      rw [e] at s0
      simp [World.cell?, hb] at s0
    have HTb := Lib.hid (show (S b' ∨ w.heap.size < b') from by
      obtain ⟨m, k5, _, k7⟩ := HC3.out.held
      obtain rfl : m = some b' := by rw [HB5.out] at k5; simpa using k5.symm
      exact (k7 b' rfl).1)
    have HCc5 := Lib.hid (fun (o : Nat) => HCd5.out.cell (p := ⟨w.heap.size, o, none⟩) HS3.out hnY)
    have g5 : w5.cell? ⟨B, 522, none⟩ = some (.map (some b')) := (HCd5.out.cell (p := ⟨B, 522, none⟩) (cell_lt r5) hnB).trans r5
    have g1 : w5.cell? ⟨B, 1, none⟩ = some (.int .u64 (puts : Int)) := (HCd5.out.cell (p := ⟨B, 1, none⟩) (cell_lt r1) hnB).trans r1
    have q0 := (HCc5.out 0).trans s0
    have q1 := (HCc5.out 1).trans s1
    have q2 := (HCc5.out 2).trans s2
    have q3 := (HCc5.out 3).trans s3
    have hbt : Tryz.prog.built 108 [(0, .agg #[.int .i64 (lv : Int), .int .i64 (σ : Int), .int .u64 at', .int .u64 due]), (1, .int .u64 (puts : Int))] = some #[.int .i64 (lv : Int), .int .i64 (σ : Int), .int .u64 at', .int .u64 due, .int .u64 (puts : Int)] := by kernel_rfl
    unfold rv at hrun
    clear e ho hv ho5 hcd ht5 hnB hnY
    go_region_held3 (fun w' => w'.cell? ⟨B, 522, none⟩ = some (.map (some b')) ∧ w'.cell? ⟨B, 1, none⟩ = some (.int .u64 (puts : Int)) ∧ w'.cell? ⟨w.heap.size, 0, none⟩ = some (.int .i64 (lv : Int)) ∧ w'.cell? ⟨w.heap.size, 1, none⟩ = some (.int .i64 (σ : Int)) ∧ w'.cell? ⟨w.heap.size, 2, none⟩ = some (.int .u64 at') ∧ w'.cell? ⟨w.heap.size, 3, none⟩ = some (.int .u64 due)) (go_keep) (fail)
    have fr1 := HC5.out.fr 1
    have hwp : IntKind.u64.wrap ((puts : Int) + 1) = ((puts + 1 : Nat) : Int) := by have := HP.out; rw [IntKind.wrap_u64]; omega
    clear hrun hbt r5 r1 s0 s1 s2 s3 g5
    go_wp2_with fail
    rw [show (puts : Int) + 1 = ((puts + 1 : Nat) : Int) by omega]
    have HC6 := Lib.hid (HC5.out.set1 (puts + 1))
    have hne : ¬ w.heap.size = B := by omega
    have q0 := setCell_other (u := .int .u64 ((puts + 1 : Nat) : Int)) q0 (p := ⟨B, 1, none⟩) (addr_ne_block (fun e => hne e.symm))
    have q1 := setCell_other (u := .int .u64 ((puts + 1 : Nat) : Int)) q1 (p := ⟨B, 1, none⟩) (addr_ne_block (fun e => hne e.symm))
    have q2 := setCell_other (u := .int .u64 ((puts + 1 : Nat) : Int)) q2 (p := ⟨B, 1, none⟩) (addr_ne_block (fun e => hne e.symm))
    have q3 := setCell_other (u := .int .u64 ((puts + 1 : Nat) : Int)) q3 (p := ⟨B, 1, none⟩) (addr_ne_block (fun e => hne e.symm))
    have HCB := Lib.hid (HCd5.out.mono (T := fun k => k = b' ∨ k = B) (fun k e => .inl e) |>.trans ((chB (B := B) w5 1 (.int .u64 ((puts + 1 : Nat) : Int))).mono (fun k e => .inr e)))
    generalize w5.setCell ⟨B, 1, none⟩ (.int .u64 ((puts + 1 : Nat) : Int)) = W6 at *
    clear g1 hwp fr1 HC5 HH5 HCd5 HCc5
    have i0 : (0 : Int) ≤ (lv : Int) := by omega
    have i1 : (lv : Int) < 8 := by omega
    have i2 : (0 : Int) ≤ (σ : Int) := by omega
    have i3 : (σ : Int) < 64 := by omega
    go_region_held3 (fun w' => w'.cell? ⟨w.heap.size, 0, none⟩ = some (.int .i64 (lv : Int)) ∧ w'.cell? ⟨w.heap.size, 1, none⟩ = some (.int .i64 (σ : Int))) (go_keep) (fail)
    have HC7 := Lib.hid (HC6.out.frame (T := fun _ => False) ((ChP.refl _ W6).drew) (fun _ _ _ h => h))
    have HCB7 := Lib.hid (HCB.out.drew)
    have q0 : W6.drew.cell? ⟨w.heap.size, 0, none⟩ = _ := q0
    have q1 : W6.drew.cell? ⟨w.heap.size, 1, none⟩ = _ := q1
    have q2 : W6.drew.cell? ⟨w.heap.size, 2, none⟩ = _ := q2
    have q3 : W6.drew.cell? ⟨w.heap.size, 3, none⟩ = _ := q3
    clear HC6 HCB
    generalize W6.drew = W7 at *
    have HQ := Lib.hid (show Four W7 w.heap.size _ _ _ _ from ⟨q0, q1, q2, q3⟩)
    obtain ⟨vs, hv1, hv2⟩ := HC7.out.slots
    have hi : lv * 64 + σ < 512 := by omega
    obtain ⟨hvc, hvr, hvo⟩ := hv1 (lv * 64 + σ) hi
    rw [show 2 + (lv * 64 + σ) = 2 + lv * 64 + σ by omega] at hvc
    generalize vs (lv * 64 + σ) = v0 at *
    have HVc := Lib.hid hvc
    have HSl := Lib.hid (Nat.le_trans (inSlot_len (L := L) (lv * 64 + σ)) HLen.out)
    obtain ⟨nn, hnn⟩ : ∃ nn, nn = (inSlot L (lv * 64 + σ)).length := ⟨_, rfl⟩
    rw [← hnn] at hvr HSl
    have HNn := Lib.hid hnn
    obtain ⟨j0, hj, hz0, hz1, hz2⟩ := iinfo
    have HbW := Lib.hid (show base ≤ W7.heap.size by have h1 := HS3.out; have h2 := HCB7.out.size; omega)
    have hfz := HC7.out.fr (2 + lv * 64 + σ)
    have HBne := Lib.hid (fun g hg => (hvo g hg).2)
    have HVo := Lib.hid (fun g hg => (hvo g hg).1)
    have hnw := World.new_ne W7 _ hvc
    have HFin := Lib.hid (fun (v' : Value) (w8 : World) (hown : w8.ownsRow base 3 1 v' (nn + 1) ((inSlot L (lv * 64 + σ)).map iv ++ [.int .i64 id])) (hg : (W7.alloc (.cells #[.int .i64 id] 3)).grownBy w8 v0.ownBlock) (hat : v'.ownBlock = v0.ownBlock ∨ v'.ownBlock = some (W7.heap.size + 1)) =>
      show w8.cell? ⟨B, 2 + lv * 64 + σ, none⟩ = some v0 ∧ w8.frozen? ⟨B, 2 + lv * 64 + σ, none⟩ = false ∧ WC (w8.setCell ⟨B, 2 + lv * 64 + σ, none⟩ v') base B (fun k => S k ∨ w.heap.size < k) now (puts + 1) (L ++ [⟨id, ⟨lv, (σ : Int), at', due⟩, puts⟩]) (L ++ [⟨id, ⟨lv, (σ : Int), at', due⟩, puts⟩]) L ∧
        ChP (fun k => k = B ∨ v0.ownBlock = some k) W7 (w8.setCell ⟨B, 2 + lv * 64 + σ, none⟩ v') from by
      have hc : ChP (fun k => v0.ownBlock = some k) W7 w8 := ((ChP.refl _ W7).alloc _).trans (.grown hg (fun r e => e))
      have hlt : B < W7.heap.size := cell_lt HVc.out
      have hBv : ¬ v0.ownBlock = some B := fun e => HBne.out B e rfl
      have hsn := inSlot_snoc L ⟨id, ⟨lv, (σ : Int), at', due⟩, puts⟩
      have hsz := HS3.out
      have hsz2 := HCB7.out.size
      refine ⟨(hc.cell hlt hBv).trans HVc.out, (hc.frozen (p := ⟨B, 2 + lv * 64 + σ, none⟩) hlt hBv).trans (HC7.out.fr _), ?_, (hc.mono (fun k e => .inr e)).trans ((chB w8 _ v').mono (fun k e => .inl e))⟩
      have key := HC7.out.slot hi (v' := v') (L := L ++ [⟨id, ⟨lv, (σ : Int), at', due⟩, puts⟩]) (by rw [show 2 + (lv * 64 + σ) = 2 + lv * 64 + σ by omega]; exact HVc.out) hc (by
        rw [hsn, if_pos (by simp only []; omega), List.length_append, List.map_append, ← HNn.out]
        exact hown) (fun g hgg => by
          rcases hat with e | e
          · rw [e] at hgg
            refine ⟨?_, .inl hgg⟩
            obtain ⟨vs', k1, _⟩ := HC7.out.slots
            obtain ⟨k2, _, k3⟩ := k1 _ hi
            rw [show 2 + (lv * 64 + σ) = 2 + lv * 64 + σ by omega, HVc.out] at k2
            cases k2
            exact (k3 g hgg).1
          · rw [e] at hgg
            cases hgg
            exact ⟨.inr (by omega), .inr (by omega)⟩) (fun j hj hne => by
          rw [hsn, if_neg (by simp only []; omega), List.append_nil])
      rwa [show 2 + (lv * 64 + σ) = 2 + lv * 64 + σ by omega] at key)
    clear hv1 hv2 hvo hnn q0 q1 q2 q3 HC7
    go_wp2_with (first
      | (at_builtin; refine wpList_append_own_at _ rfl _ _ 24 rfl base 3 j0 (.int .i64 0) 1 8 Tryz.underlying24 hj hz0 hz1 hz2 rfl (by decide) v0 nn _ rfl (hvr.alloc _) ⟨W7.heap.size, 0, none⟩ 1 1 [.int .i64 id] rfl rfl (One.new W7 (.int .i64 id) 3).news (by simp [Value.oneCell']) (by have := HSl.out; unfold maxLen; omega) (by have := HSl.out; omega) (by have := HbW.out; simp; omega) ?_; intro v' w8 hown8 hg8 hnil8 hat8; obtain ⟨aa, cc, rfl⟩ := own_form hown8; obtain ⟨k1, k2, k3, k4⟩ := HFin.out _ w8 hown8 hg8 (by simpa using hat8); have HK3 := Lib.hid k3; have HK4 := Lib.hid k4; clear k3 k4 hown8 hg8 hnil8 hat8; go_frame)
      | fail)
    generalize w8.setCell ⟨B, 2 + lv * 64 + σ, none⟩ (Value.slice aa (nn + 1) cc) = W9 at *
    obtain ⟨M, hMc, hMB⟩ := HK3.out.masks
    have hMlt : ∀ n, n < 8 → M n < 18446744073709551616 := fun n hn => (hMB n hn).1
    have hQ9 : W9.rangeAt w.heap.size 0 [.int .i64 (lv : Int), .int .i64 (σ : Int), .int .u64 at', .int .u64 due] := by
      have hlt := HS3.out
      have hsz := HCB7.out.size
      have hc := HK4.out
      have hn : ¬ (w.heap.size = B ∨ v0.ownBlock = some w.heap.size) := by
        rintro (e | e)
        · omega
        · rcases HVo.out _ e with k | k
          · have := HHi.out _ k; omega
          · omega
      have hl7 : w.heap.size < W7.heap.size := by omega
      intro j v hv
      rw [Nat.zero_add]
      refine (hc.cell (p := ⟨w.heap.size, j, none⟩) hl7 hn).trans ?_
      match j, hv with
      | 0, hv => cases hv; exact HQ.out.c0
      | 1, hv => cases hv; exact HQ.out.c1
      | 2, hv => cases hv; exact HQ.out.c2
      | 3, hv => cases hv; exact HQ.out.c3
    have hM9 : W9.rangeAt B 514 (ml M) := ml_range hMc
    have HMB := Lib.hid hMB
    have HWS := Lib.hid (fun W => with_spot hMlt hlv (σ : Int) at' due W)
    obtain ⟨U, hU⟩ : ∃ U, U = updM M lv (Mk.withN (M lv) [(σ : Int)]) := ⟨_, rfl⟩
    rw [← hU] at HWS
    have HU := Lib.hid hU
    unfold mv at HWS
    have HKeep := Lib.hid (fun (w' : World) (hc : Ch [] W9.drew w') => show (w'.rangeAt B 514 (ml M) ∧ w'.rangeAt w.heap.size 0 [.int .i64 (lv : Int), .int .i64 (σ : Int), .int .u64 at', .int .u64 due]) ∧ w'.there B 514 8 ∧ WC w' base B (fun k => S k ∨ w.heap.size < k) now (puts + 1) (L ++ [⟨id, ⟨lv, (σ : Int), at', due⟩, puts⟩]) (L ++ [⟨id, ⟨lv, (σ : Int), at', due⟩, puts⟩]) L from by
      have hc : ChP (fun _ => False) W9 w' := (ChP.refl _ W9).drew.trans (.quiet hc)
      have hlB := cell_lt (hMc 0 (by decide))
      have hlY := cell_lt (hQ9 0 _ rfl)
      exact ⟨⟨fun j v hv => (hc.cell (p := ⟨B, 514 + j, none⟩) hlB (fun h => h)).trans (hM9 j v hv), fun j v hv => (hc.cell (p := ⟨w.heap.size, 0 + j, none⟩) hlY (fun h => h)).trans (hQ9 j v hv)⟩,
        ml_there (fun n hn => (hc.cell (p := ⟨B, 514 + n, none⟩) hlB (fun h => h)).trans (hMc n hn)) (fun o => (hc.frozen (p := ⟨B, o, none⟩) hlB (fun h => h)).trans (HK3.out.fr o)), HK3.out.frame hc (fun _ _ _ h => h)⟩)
    have hMD : W9.drew.rangeAt B 514 (ml M) := hM9
    have hQD : W9.drew.rangeAt w.heap.size 0 [.int .i64 (lv : Int), .int .i64 (σ : Int), .int .u64 at', .int .u64 due] := hQ9
    clear hMc hMB hMlt hU k1 k2 hfz hnw hM9 hQ9
    refine wp_region_noPanic ?_
    refine wp_region_lastL _ (by kernel_rfl) rfl (by kernel_rfl) (fun w' => (w'.rangeAt B 514 (ml M) ∧ w'.rangeAt w.heap.size 0 [.int .i64 (lv : Int), .int .i64 (σ : Int), .int .u64 at', .int .u64 due])) ⟨hMD, hQD⟩ (fun hHeld => ?_)
    simp only [List.dropLast_cons_cons, List.dropLast_singleton, List.length_cons, List.length_nil]
    refine wpAnyH_take (i := 0) (v := ?v1_0) rfl (by kernel_rfl) (by kernel_rfl) (by kernel_rfl) (fun _ _ _ h => h) (Or.inl ⟨by rfl, ?y1_0⟩) (by assumption) ?_
    case y1_0 => intro w hSw; obtain ⟨s0, s1⟩ := hSw; go_simp; try with_reducible rfl
    try simp only [Act.put, List.getElem_toArray, List.getElem_cons_zero, List.setIfInBounds_toArray, List.set_cons_zero, List.set_cons_succ]
    refine wpAnyH_take (i := 1) (v := ?v1_1) rfl (by kernel_rfl) (by kernel_rfl) (by kernel_rfl) (fun _ _ _ h => h) (Or.inl ⟨by rfl, ?y1_1⟩) (by assumption) ?_
    case y1_1 => intro w hSw; obtain ⟨s0, s1⟩ := hSw; go_simp; try with_reducible rfl
    try simp only [Act.put, List.getElem_toArray, List.getElem_cons_succ, List.getElem_cons_zero, List.setIfInBounds_toArray, List.set_cons_zero, List.set_cons_succ]
    refine wpAnyH_take (i := 2) (v := ?v1_2) rfl (by kernel_rfl) (by kernel_rfl) (by kernel_rfl) (fun _ _ _ h => h) (Or.inl ⟨by rfl, ?y1_2⟩) (by assumption) ?_
    case y1_2 => intro w hSw; obtain ⟨s0, s1⟩ := hSw; go_simp; try with_reducible rfl
    try simp only [Act.put, List.getElem_toArray, List.getElem_cons_succ, List.getElem_cons_zero, List.setIfInBounds_toArray, List.set_cons_zero, List.set_cons_succ]
    refine wpAnyH_take (i := 3) (v := ?v1_3) rfl (by kernel_rfl) (by kernel_rfl) (by kernel_rfl) (fun _ _ _ h => h) (Or.inl ⟨by rfl, ?y1_3⟩) (by assumption) ?_
    case y1_3 => intro w hSw; obtain ⟨s0, s1⟩ := hSw; go_simp; try with_reducible rfl
    try simp only [Act.put, List.getElem_toArray, List.getElem_cons_succ, List.getElem_cons_zero, List.setIfInBounds_toArray, List.set_cons_zero, List.set_cons_succ]
    refine wpAnyH_take (i := 4) (v := .agg (ml M).toArray) rfl (by kernel_rfl) (by kernel_rfl) (by kernel_rfl) (fun _ _ _ h => h) (yieldsIf_load_mid rfl 101 (.tmp 54) rfl B 514 rfl (ml M) _ (fun _ h => h.1) Tryz.underlying101 rfl (by kernel_rfl)) (by assumption) ?_
    try simp only [Act.put, List.getElem_toArray, List.getElem_cons_succ, List.getElem_cons_zero, List.setIfInBounds_toArray, List.set_cons_zero, List.set_cons_succ]
    refine wpAnyH_take (i := 5) (v := .agg ([.int .i64 (lv : Int), .int .i64 (σ : Int), .int .u64 at', .int .u64 due]).toArray) rfl (by kernel_rfl) (by kernel_rfl) (by kernel_rfl) (fun _ _ _ h => h) (yieldsIf_load_mid rfl 40 (.tmp 5) rfl w.heap.size 0 rfl ([.int .i64 (lv : Int), .int .i64 (σ : Int), .int .u64 at', .int .u64 due]) _ (fun _ h => h.2) Tryz.underlying40 rfl (by kernel_rfl)) (by assumption) ?_
    try simp only [Act.put, List.getElem_toArray, List.getElem_cons_succ, List.getElem_cons_zero, List.setIfInBounds_toArray, List.set_cons_zero, List.set_cons_succ]
    unfold ml
    refine wpAnyH_ready (rs := [6]) (by kernel_rfl) (by simp) ?_
    refine AllReadyH.cons rfl (fun K hK => ?_) AllReadyH.nil
    go_simp
    refine (HWS.out _).mono ?_
    rintro e w10 ⟨rfl, hc10⟩
    obtain ⟨K10, T10, C10⟩ := HKeep.out w10 hc10
    have HC10 := Lib.hid hc10
    have HC11 := Lib.hid C10
    clear hc10 C10
    try go_simp
    refine hK.out _ _ K10 (fun hHeld => ?_)
    clear hK K
    try simp only [Act.put, List.getElem_toArray, List.getElem_cons_succ, List.getElem_cons_zero, List.setIfInBounds_toArray, List.set_cons_zero, List.set_cons_succ]
    refine wpAnyH_take (i := 7) (v := ?v1_7) rfl (by kernel_rfl) (by kernel_rfl) (by kernel_rfl) (fun _ _ _ h => h) (Or.inl ⟨by rfl, ?y1_7⟩) (by assumption) ?_
    case y1_7 => intro w hSw; obtain ⟨s0, s1⟩ := hSw; go_simp; try with_reducible rfl
    try simp only [Act.put, List.getElem_toArray, List.getElem_cons_succ, List.getElem_cons_zero, List.setIfInBounds_toArray, List.set_cons_zero, List.set_cons_succ]
    refine wpAnyH_take (i := 8) (v := ?v1_8) rfl (by kernel_rfl) (by kernel_rfl) (by kernel_rfl) (fun _ _ _ h => h) (Or.inl ⟨by rfl, ?y1_8⟩) (by assumption) ?_
    case y1_8 => intro w hSw; obtain ⟨s0, s1⟩ := hSw; go_simp; try with_reducible rfl
    try simp only [Act.put, List.getElem_toArray, List.getElem_cons_succ, List.getElem_cons_zero, List.setIfInBounds_toArray, List.set_cons_zero, List.set_cons_succ]
    refine wpAnyH_done (by kernel_rfl) ?_ _
    unfold lastPost
    simp only []
    refine wp_store_mid 101 (.tmp 59) (.tmp 57) rfl B 514 (ml U).toArray rfl rfl T10 (by kernel_rfl) (all_oneCell_toArray (by simp [ml, Value.oneCell'])) ?_
    refine NoPanic.normal ?_
    rw [show (ml U).toArray.toList = ml U from rfl]
    have hfin := HC11.out.masks8 (M := U) (L := L ++ [⟨id, ⟨lv, (σ : Int), at', due⟩, puts⟩]) (by rw [HU.out]; exact HMB.out.snoc ⟨id, ⟨lv, (σ : Int), at', due⟩, puts⟩ HF.out)
    have hch : ChP (fun k => S k ∨ w.heap.size < k) w (set8 w10 B U) := by
      have h1 := HCw3.out.mono (T := fun k => S k ∨ w.heap.size < k) (fun k hk => .inl hk)
      have hTB := hfin.own
      have h2 := HCB7.out.mono (T := fun k => S k ∨ w.heap.size < k) (fun k hk => by
        rcases hk with rfl | rfl
        · obtain ⟨m, _, _, k7⟩ := hfin.held
          exact HTb.out
        · exact hTB)
      have h3 := HK4.out.mono (T := fun k => S k ∨ w.heap.size < k) (fun k hk => by
        rcases hk with rfl | hk
        · exact hTB
        · exact HVo.out k hk)
      have h4 := ((ChP.refl (fun k => S k ∨ w.heap.size < k) W9).drew).trans (.quiet HC10.out)
      exact ((((h1.trans h2).trans h3).trans h4).trans ((set8_chP w10 B U).mono (fun k hk => by rw [hk]; exact hTB)))
    have hchS : ChP S w (set8 w10 B U) := (ChP.refl S w).fresh hch (fun k hk => by rcases hk with hk | hk; exact .inl hk; exact .inr (by omega))
    rw [show w10.setCells B 514 (ml U) = set8 w10 B U from rfl]
    generalize set8 w10 B U = W12 at *
    have HF1 := Lib.hid hfin
    have HF2 := Lib.hid hchS
    clear hfin hch hchS
    try simp only [Act.put]
    go_end0
    refine ⟨rfl, ⟨HWI.out, HF1.out.more (fun k hk1 hk => ?_) (fun k hk => ?_), fun k hk => ?_⟩, HF2.out⟩
    · rcases hk with hk | hk
      · exact .inl hk
      · exact .inr ⟨by omega, hk1⟩
    · rcases hk with hk | hk
      · exact HF1.out.lo k (.inl hk)
      · omega
    · rcases hk with hk | hk
      · exact Nat.lt_of_lt_of_le (HHi.out k hk) HF2.out.size
      · exact hk.2
end Go.Proofs.YtnndofeomakpiaaGreatDoor
namespace Go.Proofs.YtnndofeomakpiaaGreatDoor
open Go.RowKit Go.Maps

attribute [local go_sem] Oper.semAt_some

def spz : Value := .agg #[.int .i64 0, .int .i64 0, .int .u64 0, .int .u64 0]
theorem four_spz (w : World) : Four (w.alloc (.cells #[.int .i64 0, .int .i64 0, .int .u64 0, .int .u64 0] 40)) w.heap.size (.int .i64 0) (.int .i64 0) (.int .u64 0) (.int .u64 0) := Four.new w (.int .i64 0) (.int .i64 0) (.int .u64 0) (.int .u64 0) 40

theorem put_range {B : Nat} {id : Int} (h : id < 0 ∨ 256 ≤ id) (at' : Int) (w : World) :
    Calls Tryz.prog 28 #[.pointer (some ⟨B, 0, none⟩), .int .i64 id, .int .u64 at'] w fun e w' => e = .returned (.tuple #[spz, .int .i64 2]) ∧ Ch [] w w' := by
  obtain ⟨k0, k1, k2, k3⟩ := four_spz w
  rcases Int.lt_or_le id 0 with h0 | h0
  · have hd : decide (id < 0) = true := decide_eq_true h0
    clear h h0
    go_enter Tryz.func28, Tryz.ntmps28
    go_wp2
    refine bodyPost_ret (v := .tuple #[.agg #[.int .i64 0, .int .i64 0, .int .u64 0, .int .u64 0], .int .i64 2]) ?_ rfl ?_
    · simp [results, Tryz.f28, go_sem, k0, k1, k2, k3]
    · exact ⟨rfl, (Ch.refl [] w).alloc _⟩
  · have hd : decide (id < 0) = false := decide_eq_false (by omega)
    have hd2 : decide (256 ≤ id) = true := decide_eq_true (by omega)
    clear h h0
    go_enter Tryz.func28, Tryz.ntmps28
    go_wp2
    refine bodyPost_ret (v := .tuple #[.agg #[.int .i64 0, .int .i64 0, .int .u64 0, .int .u64 0], .int .i64 2]) ?_ rfl ?_
    · simp [results, Tryz.f28, go_sem, k0, k1, k2, k3]
    · exact ⟨rfl, (Ch.refl [] w).alloc _⟩

section
variable {w : World} {base B : Nat} {S : Nat → Prop} {now : Int} {puts : Nat} {L : List Tm}
theorem look_new (h : WB w base B S now puts L) {id : Int} (h0 : 0 ≤ id) (h1 : id < 256) : ∃ m, w.cell? ⟨B, 522, none⟩ = some (.map m) ∧
    (Instr.lookup 102 (.map m) (.int .i64 id) true).run Tryz.prog (w.alloc (.cells #[.int .i64 0, .int .i64 0, .int .u64 0, .int .u64 0] 40)) = .ok (.tuple #[lookV L id, .bool (lookB L id)]) (w.alloc (.cells #[.int .i64 0, .int .i64 0, .int .u64 0, .int .u64 0] 40)) := by
  obtain ⟨m, c, hh, -⟩ := h.held
  refine ⟨m, c, ?_⟩
  exact (look_run (hh.chP (.quiet ((Ch.refl [] w).alloc (.cells #[.int .i64 0, .int .i64 0, .int .u64 0, .int .u64 0] 40))) (S := fun _ => False) (fun _ _ h => h)) (wf_small h0 h1)).1

theorem put_twice (h : WB w base B S now puts L) {id : Int} (h0 : 0 ≤ id) (h1 : id < 256) (hin : ∃ t ∈ L, t.id = id) (at' : Int) :
    Calls Tryz.prog 28 #[.pointer (some ⟨B, 0, none⟩), .int .i64 id, .int .u64 at'] w fun e w' => e = .returned (.tuple #[spz, .int .i64 5]) ∧ Ch [] w w' := by
  obtain ⟨k0, k1, k2, k3⟩ := four_spz w
  obtain ⟨m, c, hl⟩ := look_new h h0 h1
  have hB := h.hi B h.own
  have hb : lookB L id = true := by
    obtain ⟨t, ht, rfl⟩ := hin
    unfold lookB
    rw [find_in h.wi.nd ht]
    rfl
  rw [lookV_eq, hb] at hl
  generalize (findS L id).lv = x0 at *
  generalize (findS L id).sl = x1 at *
  generalize (findS L id).at' = x2 at *
  generalize (findS L id).due = x3 at *
  generalize findP L id = x4 at *
  have hd : decide (id < 0) = false := decide_eq_false (by omega)
  have hd2 : decide (256 ≤ id) = false := decide_eq_false (by omega)
  clear h h0 h1 hin hb
  go_enter Tryz.func28, Tryz.ntmps28
  go_wp2
  refine bodyPost_ret (v := .tuple #[.agg #[.int .i64 0, .int .i64 0, .int .u64 0, .int .u64 0], .int .i64 5]) ?_ rfl ?_
  · simp [results, Tryz.f28, go_sem]
  · exact ⟨rfl, ((Ch.refl [] w).alloc _).alloc _⟩

theorem four_set {W : World} {b : Nat} {x y z u : Value} (h : Four W b x y z u) (x' y' z' u' : Value) : Four ((((W.setCell ⟨b, 0, none⟩ x').setCell ⟨b, 1, none⟩ y').setCell ⟨b, 2, none⟩ z').setCell ⟨b, 3, none⟩ u') b x' y' z' u' :=
  ⟨cellB (cellB (cellB (setCell_same h.c0) (by decide)) (by decide)) (by decide), cellB (cellB (setCell_same (cellB h.c1 (by decide))) (by decide)) (by decide), cellB (setCell_same (cellB (cellB h.c2 (by decide)) (by decide))) (by decide), setCell_same (cellB (cellB (cellB h.c3 (by decide)) (by decide)) (by decide))⟩
set_option maxRecDepth 100000 in
set_option maxHeartbeats 1000000 in
theorem put_max (h : WB w base B S 18446744073709551615 puts L) {id : Int} (h0 : 0 ≤ id) (h1 : id < 256) (hno : ∀ t ∈ L, t.id ≠ id) (at' : Int) :
    Calls Tryz.prog 28 #[.pointer (some ⟨B, 0, none⟩), .int .i64 id, .int .u64 at'] w fun e w' => e = .returned (.tuple #[spz, .int .i64 12]) ∧ Ch [] w w' := by
  obtain ⟨m, c, hl⟩ := look_new h h0 h1
  have hb : lookB L id = false := by
    unfold lookB
    rw [find_no hno]
    rfl
  have HB := Lib.hid (h.hi B h.own)
  have c0 := h.c0
  have hB := HB.out
  rw [lookV_eq, hb] at hl
  generalize (findS L id).lv = x0 at *
  generalize (findS L id).sl = x1 at *
  generalize (findS L id).at' = x2 at *
  generalize (findS L id).due = x3 at *
  generalize findP L id = x4 at *
  have hd : decide (id < 0) = false := decide_eq_false (by omega)
  have hd2 : decide (256 ≤ id) = false := decide_eq_false (by omega)
  have HZ := Lib.hid (four_spz w)
  clear h h0 h1 hno hb
  go_enter Tryz.func28, Tryz.ntmps28
  go_wp2_with fail
  obtain ⟨W1, hW1⟩ : ∃ W1, W1 = (w.alloc (.cells #[.int .i64 0, .int .i64 0, .int .u64 0, .int .u64 0] 40)).alloc (.cells #[.int .i64 (x0 : Int), .int .i64 x1, .int .u64 x2, .int .u64 x3, .int .u64 (x4 : Int)] 108) := ⟨_, rfl⟩
  have hZ : Four W1 w.heap.size (.int .i64 0) (.int .i64 0) (.int .u64 0) (.int .u64 0) := by rw [hW1]; exact HZ.out.ch ((Ch.refl [] _).alloc _) (by simp)
  have hC1 : Ch [] w W1 := by rw [hW1]; exact ((Ch.refl [] w).alloc _).alloc _
  have hF1 : ∀ o, W1.frozen? ⟨w.heap.size, o, none⟩ = false := fun o => by
    rw [hW1, World.frozen?_alloc_old _ _ _ (by simp)]
    exact World.frozen?_alloc_new w _ _ _
  have hsz1 : w.heap.size < W1.heap.size := by rw [hW1]; simp; omega
  rw [← hW1]
  clear hW1 hl c c0
  with_reducible refine (place_max at' W1).mono ?_
  rintro e w2 ⟨rfl, hc2⟩
  have HC3 := Lib.hid (hC1.trans hc2)
  have hz3 := hZ.ch hc2 (by simp)
  have hf3 : ∀ o, w2.frozen? ⟨w.heap.size, o, none⟩ = false := fun o => (hc2.frozen (p := ⟨w.heap.size, o, none⟩) hsz1 (by simp)).trans (hF1 o)
  have hlt2 := Nat.lt_of_lt_of_le hsz1 hc2.size
  have f0 := hf3 0
  have f1 := hf3 1
  have f2 := hf3 2
  have f3 := hf3 3
  have HQ := Lib.hid hz3
  obtain ⟨k0, k1, k2, k3⟩ := hz3
  clear hZ hC1 hc2 HZ HB hF1 hf3 hsz1
  go_wp2
  have HQ5 := four_set HQ.out (.int .i64 0) (.int .i64 0) (.int .u64 0) (.int .u64 0)
  have hc5 : ChP (fun k => k = w.heap.size) w2 ((((w2.setCell ⟨w.heap.size, 0, none⟩ (.int .i64 0)).setCell ⟨w.heap.size, 1, none⟩ (.int .i64 0)).setCell ⟨w.heap.size, 2, none⟩ (.int .u64 0)).setCell ⟨w.heap.size, 3, none⟩ (.int .u64 0)) :=
    (((chB w2 0 _).trans (chB _ 1 _)).trans (chB _ 2 _)).trans (chB _ 3 _)
  generalize (((w2.setCell ⟨w.heap.size, 0, none⟩ (.int .i64 0)).setCell ⟨w.heap.size, 1, none⟩ (.int .i64 0)).setCell ⟨w.heap.size, 2, none⟩ (.int .u64 0)).setCell ⟨w.heap.size, 3, none⟩ (.int .u64 0) = W5 at *
  have hQ6 := HQ5.ch ((Ch.refl [] W5).alloc (.cells #[.int .i64 0, .int .i64 0, .int .u64 0, .int .u64 0] 40)) (by simp)
  obtain ⟨q0, q1, q2, q3⟩ := hQ6
  refine bodyPost_ret (v := .tuple #[.agg #[.int .i64 0, .int .i64 0, .int .u64 0, .int .u64 0], .int .i64 12]) ?_ rfl ?_
  · simp only [results, Tryz.f28, go_sem]
    simp [go_sem, q0, q1, q2, q3]
  · exact ⟨rfl, ((ChP.fresh (S := fun _ => False) (.quiet HC3.out) hc5 (fun k e => .inr (by omega))).ch (fun _ h => h)).alloc _⟩
set_option maxRecDepth 100000 in
set_option maxHeartbeats 1000000 in
theorem put_ok (h : WB w base B S now puts L) {id : Int} (h0 : 0 ≤ id) (h1 : id < 256) (hno : ∀ t ∈ L, t.id ≠ id) {at' : Int} (ha : Wd at') (hm : now ≠ 18446744073709551615) (hp : puts < 4611686018427387904) :
    Calls Tryz.prog 28 #[.pointer (some ⟨B, 0, none⟩), .int .i64 id, .int .u64 at'] w fun e w' => e = .returned (.tuple #[spV (placeV now at'), .int .i64 0]) ∧
      WB w' base B (fun k => S k ∨ (w.heap.size ≤ k ∧ k < w'.heap.size)) now (puts + 1) (L ++ [⟨id, placeV now at', puts⟩]) ∧ ChP S w w' := by
  obtain ⟨m, c, hl⟩ := look_new h h0 h1
  have hb : lookB L id = false := by
    unfold lookB
    rw [find_no hno]
    rfl
  have HB := Lib.hid (h.hi B h.own)
  have c0 := h.c0
  have hB := HB.out
  rw [lookV_eq, hb] at hl
  generalize (findS L id).lv = x0 at *
  generalize (findS L id).sl = x1 at *
  generalize (findS L id).at' = x2 at *
  generalize (findS L id).due = x3 at *
  generalize findP L id = x4 at *
  have hd : decide (id < 0) = false := decide_eq_false (by omega)
  have hd2 : decide (256 ≤ id) = false := decide_eq_false (by omega)
  have HZ := Lib.hid (four_spz w)
  have HPl := Lib.hid (fun W => place_any h.wi.wd ha hm W)
  have HH := Lib.hid (fun W (hc : Ch [] w W) => hold_any (h.quiet hc) h0 h1 hno (fits_place h.wi.wd ha hm) hp)
  have HHi := Lib.hid h.hi
  obtain ⟨s, hs⟩ : ∃ s, s = placeV now at' := ⟨_, rfl⟩
  rw [← hs] at HPl HH ⊢
  obtain ⟨lv, sl, sa, sd⟩ := s
  unfold spV at HPl HH ⊢
  clear h h0 h1 hno hb ha hm hp hs
  go_enter Tryz.func28, Tryz.ntmps28
  go_wp2_with fail
  obtain ⟨W1, hW1⟩ : ∃ W1, W1 = (w.alloc (.cells #[.int .i64 0, .int .i64 0, .int .u64 0, .int .u64 0] 40)).alloc (.cells #[.int .i64 (x0 : Int), .int .i64 x1, .int .u64 x2, .int .u64 x3, .int .u64 (x4 : Int)] 108) := ⟨_, rfl⟩
  have hZ : Four W1 w.heap.size (.int .i64 0) (.int .i64 0) (.int .u64 0) (.int .u64 0) := by rw [hW1]; exact HZ.out.ch ((Ch.refl [] _).alloc _) (by simp)
  have hC1 : Ch [] w W1 := by rw [hW1]; exact ((Ch.refl [] w).alloc _).alloc _
  have hF1 : ∀ o, W1.frozen? ⟨w.heap.size, o, none⟩ = false := fun o => by
    rw [hW1, World.frozen?_alloc_old _ _ _ (by simp)]
    exact World.frozen?_alloc_new w _ _ _
  have hsz1 : w.heap.size < W1.heap.size := by rw [hW1]; simp; omega
  rw [← hW1]
  clear hW1 hl c c0
  with_reducible refine (HPl.out W1).mono ?_
  rintro e w2 ⟨rfl, hc2⟩
  have hc3 := hc2.alloc (.cells #[.int .i64 (lv : Int), .int .i64 sl, .int .u64 sa, .int .u64 sd] 40)
  have hf3 := Four.new w2 (.int .i64 (lv : Int)) (.int .i64 sl) (.int .u64 sa) (.int .u64 sd) 40
  obtain ⟨j0, j1, j2, j3⟩ := hf3
  have HZ3 := Lib.hid (hZ.ch hc3 (by simp))
  have HF3 := Lib.hid (fun o => (hc3.frozen (p := ⟨w.heap.size, o, none⟩) hsz1 (by simp)).trans (hF1 o))
  have HC3 := Lib.hid (hC1.trans hc3)
  have HS3 := Lib.hid (Nat.lt_of_lt_of_le hsz1 hc3.size)
  clear hZ hC1 hF1 hc2 hc3 HZ hsz1
  go_wp2_with fail
  with_reducible refine (HH.out _ HC3.out).mono ?_
  rintro e w4 ⟨rfl, hwb4, hch4⟩
  have HW4 := Lib.hid hwb4
  have hn : ¬ S w.heap.size := fun e => by have := HHi.out _ e; omega
  have hz4 : Four w4 w.heap.size (.int .i64 0) (.int .i64 0) (.int .u64 0) (.int .u64 0) :=
    ⟨(hch4.cell (p := ⟨w.heap.size, 0, none⟩) HS3.out hn).trans HZ3.out.c0, (hch4.cell (p := ⟨w.heap.size, 1, none⟩) HS3.out hn).trans HZ3.out.c1, (hch4.cell (p := ⟨w.heap.size, 2, none⟩) HS3.out hn).trans HZ3.out.c2, (hch4.cell (p := ⟨w.heap.size, 3, none⟩) HS3.out hn).trans HZ3.out.c3⟩
  have hf4 : ∀ o, w4.frozen? ⟨w.heap.size, o, none⟩ = false := fun o => (hch4.frozen (p := ⟨w.heap.size, o, none⟩) HS3.out hn).trans (HF3.out o)
  have hj : ∀ o, w4.cell? ⟨w2.heap.size, o, none⟩ = (w2.alloc (.cells #[.int .i64 (lv : Int), .int .i64 sl, .int .u64 sa, .int .u64 sd] 40)).cell? ⟨w2.heap.size, o, none⟩ := fun o => hch4.cell (p := ⟨w2.heap.size, o, none⟩) (by simp) (fun e => by
    have h1 : w2.heap.size < w.heap.size := HHi.out _ e
    have h2 := HC3.out.size
    have h3 := HS3.out
    simp at h2 h3
    omega)
  have j0 := (hj 0).trans j0
  have j1 := (hj 1).trans j1
  have j2 := (hj 2).trans j2
  have j3 := (hj 3).trans j3
  have f0 := hf4 0
  have f1 := hf4 1
  have f2 := hf4 2
  have f3 := hf4 3
  have HQ := Lib.hid hz4
  obtain ⟨k0, k1, k2, k3⟩ := hz4
  have HCh := Lib.hid ((ChP.quiet (S := S) HC3.out).trans hch4)
  clear hwb4 hch4 hn hf4 hj HH HPl HZ3 HF3
  go_wp2
  have HQ5 := four_set HQ.out (.int .i64 (lv : Int)) (.int .i64 sl) (.int .u64 sa) (.int .u64 sd)
  have hc5 : ChP (fun k => k = w.heap.size) w4 ((((w4.setCell ⟨w.heap.size, 0, none⟩ (.int .i64 (lv : Int))).setCell ⟨w.heap.size, 1, none⟩ (.int .i64 sl)).setCell ⟨w.heap.size, 2, none⟩ (.int .u64 sa)).setCell ⟨w.heap.size, 3, none⟩ (.int .u64 sd)) :=
    (((chB w4 0 _).trans (chB _ 1 _)).trans (chB _ 2 _)).trans (chB _ 3 _)
  generalize (((w4.setCell ⟨w.heap.size, 0, none⟩ (.int .i64 (lv : Int))).setCell ⟨w.heap.size, 1, none⟩ (.int .i64 sl)).setCell ⟨w.heap.size, 2, none⟩ (.int .u64 sa)).setCell ⟨w.heap.size, 3, none⟩ (.int .u64 sd) = W5 at *
  obtain ⟨q0, q1, q2, q3⟩ := HQ5
  refine bodyPost_ret (v := .tuple #[.agg #[.int .i64 (lv : Int), .int .i64 sl, .int .u64 sa, .int .u64 sd], .int .i64 0]) ?_ rfl ?_
  · simp [results, Tryz.f28, go_sem, q0, q1, q2, q3]
  · have hsz := HC3.out.size
    have hs3 := HS3.out
    have hlt := HHi.out
    have hfr := HW4.out.frame hc5 (fun k hk e => by
      rcases hk with hk | hk
      · have := hlt k hk; omega
      · omega)
    refine ⟨rfl, ⟨hfr.wi, hfr.wc.more (fun k hk1 hk => ?_) (fun k hk => ?_), fun k hk => ?_⟩, (HCh.out.fresh hc5 (fun k e => .inr (by omega)))⟩
    · rcases hk with hk | hk
      · exact .inl hk
      · exact .inr ⟨by omega, hk1⟩
    · rcases hk with hk | hk
      · exact hfr.wc.lo k (.inl hk)
      · have := hfr.wc.lo B hfr.own
        have := HB.out
        omega
    · rcases hk with hk | hk
      · exact Nat.lt_of_lt_of_le (hlt k hk) (HCh.out.fresh hc5 (fun k e => .inr (by omega))).size
      · exact hk.2
end
end Go.Proofs.YtnndofeomakpiaaGreatDoor

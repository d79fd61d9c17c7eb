/-
  The law RingThings: what it is told of its arguments; lists of things.
-/
import Derived.Test.YtkjkaihbpccdmaaRTD
import Derived.Test.YtkjkaihbpccdmaaRIK
import Derived.Test.YtkjkaihbpccdmaaRingQ
import Derived.Test.YtkjkaihbpccdmaaRingW
namespace Go.Proofs.Ytkjkaihbpccdmaa
open Go.RowKit rT

attribute [local go_sem] Oper.semAt_some

def noTh : Th := (0, ⟨#[]⟩)
/-- Things as the cells of a slice. -/
def tvs : List Th → List Value
  | [] => []
  | x :: r => .int .i64 x.1 :: .string x.2 :: tvs r
theorem tvs_len : ∀ xs : List Th, (tvs xs).length = xs.length * 2
  | [] => rfl
  | x :: r => by simp only [tvs, List.length_cons, tvs_len r]; omega
theorem tvs_app : ∀ xs ys : List Th, tvs (xs ++ ys) = tvs xs ++ tvs ys
  | [], _ => rfl
  | x :: r, ys => by simp [tvs, tvs_app r ys]
theorem tvs_get : ∀ (xs : List Th) (j : Nat), j < xs.length → (tvs xs)[j * 2]? = some (.int .i64 (xs[j]?.getD noTh).1) ∧ (tvs xs)[j * 2 + 1]? = some (.string (xs[j]?.getD noTh).2)
  | [], j, h => by simp at h
  | x :: r, 0, _ => ⟨rfl, rfl⟩
  | x :: r, j + 1, h => by
    have := tvs_get r j (by simpa using h)
    rw [show (j + 1) * 2 = j * 2 + 1 + 1 by omega]
    simp only [tvs, List.getElem?_cons_succ]
    exact this
theorem kept_cell {w : World} {D g n cap : Nat} {xs : List Th} (h : w.ownsRow D 50 2 (.slice (some ⟨g, 0, none⟩) n cap) n (tvs xs)) (hn : n = xs.length) (j : Nat) (hj : j < n) :
    w.cell? ⟨g, j * 2, none⟩ = some (.int .i64 (xs[j]?.getD noTh).1) ∧ w.cell? ⟨g, j * 2 + 1, none⟩ = some (.string (xs[j]?.getD noTh).2) := by
  have := tvs_get xs j (by omega)
  exact ⟨(World.ownsRow.cellAt h (j * 2) (by omega)).trans this.1, (World.ownsRow.cellAt h (j * 2 + 1) (by omega)).trans this.2⟩
theorem drop_one (xs : List Th) (o : Nat) (h : o < xs.length) : xs.drop o = xs[o]?.getD noTh :: xs.drop (o + 1) := by
  rw [List.drop_eq_getElem_cons h]; simp [h]
theorem drop_app (xs : List Th) (x : Th) (o : Nat) (h : o ≤ xs.length) : (xs ++ [x]).drop o = xs.drop o ++ [x] := by
  rw [List.drop_append_of_le_length h]

/-- The things that came in. -/
def ThingsAt (W : World) (a : Option Addr) (len : Nat) : Prop := len = 0 ∨ ∃ b off, a = some ⟨b, off, none⟩ ∧ ∀ i, i < len → ∃ x : Th, W.cell? ⟨b, off + i * 2, none⟩ = some (.int .i64 x.1) ∧ W.cell? ⟨b, off + i * 2 + 1, none⟩ = some (.string x.2)
/-- The bools that came in. -/
def BoolsAt (W : World) (a : Option Addr) (len : Nat) : Prop := len = 0 ∨ ∃ b off, a = some ⟨b, off, none⟩ ∧ ∀ i, i < len → ∃ x : Bool, W.cell? ⟨b, off + i, none⟩ = some (.bool x)

theorem infoThing : (Try.prog.info? 50).map (fun i => (i.zero, i.size, i.bytes)) = some (some (.agg #[.int .i64 0, .string ⟨#[]⟩]), 2, 24) := by kernel_rfl
theorem news_two (W : World) (u v : Value) (t : TypeId) : ∀ j x, [u, v][j]? = some x → (W.alloc (.cells #[u, v] t)).cell? ((⟨W.heap.size, 0, none⟩ : Addr).add j) = some x := by
  intro j x hx
  rw [add_at, Nat.zero_add, World.cell?_alloc_at _ _ _ _ rfl]
  simpa using hx

theorem below3 {w w2 w3 : World} {R S n : Nat} {E E' : TypeId} {s : Nat} {kv : Value} {l : List Value} {cs : Array Value} (hM : w2.ownsRow (R + 1) E s kv n l) (hB : Below S w w2) (hZ : R + 1 ≤ w2.heap.size) (hR : S < R)
    (hg : (w2.alloc (.cells cs E')).grownBy w3 kv.ownBlock) : Below S w w3 :=
  (hB.alloc (by omega) _).grown hg (by simp; omega) (fun j e => by have := (hM.lt j e).1; omega)
theorem rl3 {w2 w3 : World} {R S room n : Nat} {E E' : TypeId} {s : Nat} {kv : Value} {l : List Value} {cs : Array Value} {xs : List Th} (hM : w2.ownsRow (R + 1) E s kv n l) (hL : RL w2 R S room xs) (hR : S < R)
    (hg : (w2.alloc (.cells cs E')).grownBy w3 kv.ownBlock) : RL w3 R S room xs := by
  have hc3 : Ch (match kv.ownBlock with | some j => [j] | none => []) w2 w3 := by
    refine (Ch.alloc (Ch.refl _ _) _).trans ⟨hg.os, hg.tape, hg.output, hg.size, fun j hj hn => hg.block j hj (fun e => hn ?_)⟩
    rw [← e]; simp
  have hfresh : ∀ j, kv.ownBlock = some j → R + 1 ≤ j := fun j e => (hM.lt j e).1
  refine hL.ch hc3 ?_ ?_
  · cases hu : kv.ownBlock with
    | none => simp
    | some j => have := hfresh j hu; simp; omega
  · cases hu : kv.ownBlock with
    | none => simp
    | some j => have := hfresh j hu; simp; omega

set_option maxRecDepth 100000 in
set_option maxHeartbeats 4000000 in
theorem things_law (a0 : Int) (a : Option Addr) (len cap : Nat) (pa : Option Addr) (plen pcap : Nat) (w : World) (_ : len ≤ 9223372036854775807) (ha : ThingsAt w a len) (_ : plen ≤ 9223372036854775807) (hp : BoolsAt w pa plen) :
    Calls Try.prog 4 #[.int .i64 a0, .slice a len cap, .slice pa plen pcap] w fun e w' => e = .returned (.bool true) ∧ Below w.heap.size w w' := by
  have u0 : 0 ≤ IntKind.u64.wrap a0 ∧ IntKind.u64.wrap a0 < 18446744073709551616 := by rw [IntKind.wrap_u64]; omega
  generalize hg0 : IntKind.u64.wrap a0 = U0 at u0
  obtain ⟨u00, u01⟩ := u0
  obtain ⟨room, hr0, hr1, hr2⟩ : ∃ room : Nat, 1 + U0 % 256 = (room : Int) ∧ 1 ≤ room ∧ room ≤ 256 := ⟨(1 + U0 % 256).toNat, by omega⟩
  obtain ⟨i0, hI, hz0, hz1, hz2⟩ := info_parts infoThing
  obtain ⟨S, hS⟩ : ∃ S, S = w.heap.size := ⟨_, rfl⟩
  have HNew := Lib.hid (rT.new_l room w hr1 hr2)
  rw [← hS] at HNew ⊢
  have HS := Lib.hid hS
  have HA := Lib.hid ha
  have HPA := Lib.hid hp
  clear hS ha hp
  go_enter Try.func4, Try.ntmps4
  go_wp2_with fail
  refine HNew.out.mono ?_
  rintro e w1 ⟨R, rfl, hl1, hb1, hR1, hR2⟩
  have HL1 := Lib.hid hl1
  have HB1 := Lib.hid hb1
  have HSz := Lib.hid (show R + 1 ≤ w1.heap.size by omega)
  have HSR := Lib.hid (show (∀ k ∈ [R, S], S ≤ k) ∧ (∀ k ∈ [R, S], k < R + 1) ∧ S < R by simp; omega)
  clear hl1 hb1 hR1 hR2 hg0
  go_wp2_with fail
  go_loopw [9, 10, 11, 12] (fun sin sout sk si wr => ∃ (k o : Nat) (xs : List Th), k ≤ len ∧ si = .int .i64 (k : Int) ∧ sin = .int .i64 (xs.length : Int) ∧ sout = .int .i64 (o : Int) ∧ o ≤ xs.length ∧ xs.length ≤ k ∧ k ≤ 80 ∧
      wr.ownsRow (R + 1) 50 2 sk xs.length (tvs xs) ∧ RL wr R S room (xs.drop o) ∧ Below S w wr ∧ R + 1 ≤ wr.heap.size) (fun _ _ _ si _ => len - (intOf si).toNat)
  case atStart => exact ⟨0, 0, [], Nat.zero_le _, rfl, rfl, rfl, Nat.le_refl _, Nat.le_refl _, by omega, World.ownsRow_nil _ _ _ _, HL1.out, HB1.out, HSz.out⟩
  case round =>
    obtain ⟨k, o, xs, hk, rfl, rfl, rfl, ho, hxk, hk80, hm, hl, hb, hsz⟩ := hrel
    obtain ⟨kv, rfl⟩ : ∃ kv : Value, kv = u11 := ⟨_, rfl⟩
    have HM := Lib.hid hm
    have HL := Lib.hid hl
    have HB := Lib.hid hb
    have HZ := Lib.hid hsz
    have hxo : xs.length - o ≤ room := by have := hl.le.1; simpa using this
    clear hm hl hb hsz
    obtain ⟨n, hn⟩ : ∃ n, n = xs.length := ⟨_, rfl⟩
    have HN := Lib.hid hn
    rw [← hn] at HM ho hxk hxo ⊢
    clear hn
    by_cases hlt : k < len ∧ k < 80
    · obtain ⟨hlt, h80⟩ := hlt
      rcases HA.out with h0 | ⟨b, off, rfl, hacts⟩
      · exfalso; omega
      obtain ⟨x, hc0, hc1⟩ := hacts k hlt
      have hbs : b < S := by rw [HS.out]; exact cell_lt hc0
      have HC0 := Lib.hid hc0
      have HC1 := Lib.hid hc1
      have hc0 := (HB.out.cell (p := ⟨b, off + k * 2, none⟩) hbs).trans hc0
      have hc1 := (HB.out.cell (p := ⟨b, off + k * 2 + 1, none⟩) hbs).trans hc1
      have ht1 : decide ((k : Int) < 80) = true := by simp; omega
      have ht2 : (k : Int) < (len : Int) := by omega
      clear hacts
      have hpc : (k < plen ∧ ∃ b2 off2, pa = some ⟨b2, off2, none⟩ ∧ w.cell? ⟨b2, off2 + k, none⟩ = some (.bool true)) ∨ (k < plen ∧ ∃ b2 off2, pa = some ⟨b2, off2, none⟩ ∧ w.cell? ⟨b2, off2 + k, none⟩ = some (.bool false)) ∨ ¬ k < plen := by
        by_cases hkp : k < plen
        · rcases HPA.out with h0 | ⟨b2, off2, rfl, hbools⟩
          · exfalso; omega
          obtain ⟨pb, hpb⟩ := hbools k hkp
          cases pb
          · exact .inr (.inl ⟨hkp, b2, off2, rfl, hpb⟩)
          · exact .inl ⟨hkp, b2, off2, rfl, hpb⟩
        · exact .inr (.inr hkp)
      rcases hpc with ⟨hkp, b2, off2, rfl, hpb⟩ | ⟨hkp, b2, off2, rfl, hpb⟩ | hkp
      · have hb2s : b2 < S := by rw [HS.out]; exact cell_lt hpb
        have HPB := Lib.hid hpb
        have hkpi : (k : Int) < (plen : Int) := by omega
        clear hpb
        by_cases hroom : n - o < room
        · have hd5 : decide ((n : Int) - (o : Int) < (room : Int)) = true := by simp; omega
          have hd6 : (n : Int) - (o : Int) < (room : Int) := by omega
          go_wp2_with fail
          refine (rT.push_l1 (HL.out.ch (S := []) ((Ch.refl _ _).alloc _) (by simp) (by simp)) (by rw [List.length_drop, ← HN.out]; exact hroom) wr.heap.size x (by have := HZ.out; omega) (by have := HZ.out; have := HSR.out.2.2; omega) (Box2.new wr _ _ _)).mono ?_
          rintro e w2 ⟨rfl, hl2, hc2⟩
          rw [← drop_app xs x o (by rw [← HN.out]; exact ho)] at hl2
          have hM2 := own_ch (HM.out.alloc (.cells #[.int .i64 x.1, .string x.2] 50)) hc2 HSR.out.2.1
          have hZ2 : R + 1 ≤ w2.heap.size := Nat.le_trans (by have := HZ.out; simp; omega) hc2.size
          have hB2 : Below S w w2 := (HB.out.alloc (by have := HZ.out; have := HSR.out.2.2; omega) _).trans (hc2.below S HSR.out.1 (by have := HZ.out; have := HSR.out.2.2; simp; omega))
          have hc0 := (hB2.cell (p := ⟨b, off + k * 2, none⟩) hbs).trans HC0.out
          have hc1 := (hB2.cell (p := ⟨b, off + k * 2 + 1, none⟩) hbs).trans HC1.out
          have HM2 := Lib.hid hM2
          have HZ2 := Lib.hid hZ2
          have HB2 := Lib.hid hB2
          have HL2 := Lib.hid hl2
          clear hM2 hZ2 hB2 hc2 hl2
          go_wp2_with (at_builtin; go_must (refine wpList_append_own _ rfl _ _ 44 rfl (R + 1) 50 i0 (.agg #[.int .i64 0, .string ⟨#[]⟩]) 2 24 Try.underlying44 hI hz0 hz1 hz2 rfl (by decide) kv n (tvs xs) rfl (HM2.out.alloc _) ⟨w2.heap.size, 0, none⟩ 1 1 [.int .i64 x.1, .string x.2] rfl rfl (news_two _ _ _ _) (by simp [Value.oneCell']) (by unfold maxLen; omega) (by omega) (by have := HZ2.out; simp; omega) ?_); intro v3 w3 hown3 hgrow3 _; obtain ⟨gx, capx, rfl⟩ := ownsRow_succ hown3; have HB3 := Lib.hid (below3 HM2.out HB2.out HZ2.out HSR.out.2.2 hgrow3); have hpb3 := (HB3.out.cell (p := ⟨b2, off2 + k, none⟩) hb2s).trans HPB.out)
          have HLx := Lib.hid (rl3 HM2.out HL2.out HSR.out.2.2 hgrow3)
          have HMx : Hid (w3.ownsRow (R + 1) 50 2 (.slice (some ⟨gx, 0, none⟩) (n + 1) capx) (n + 1) (tvs (xs ++ [x]))) := by rw [tvs_app]; exact hown3
          have HBx := HB3
          have HZx := Lib.hid (Nat.le_trans HZ2.out (Nat.le_trans (by simp) hgrow3.size))
          have HNx := Lib.hid (show n + 1 = (xs ++ [x]).length by rw [List.length_append, ← HN.out]; rfl)
          have hox : o < n + 1 := by omega
          have hoi : (o : Int) < (n : Int) + 1 := by omega
          clear hown3 hgrow3 HM2 HL2 HB2 HZ2 hc0 hc1 HB3
          generalize w3 = wx at *
          have hdr := HLx.out
          rw [drop_one (xs ++ [x]) o (by rw [← HNx.out]; exact hox)] at hdr
          have hkc := kept_cell HMx.out HNx.out o hox
          generalize (xs ++ [x])[o]?.getD noTh = y at hdr hkc
          have HKC := Lib.hid hkc
          have HDR := Lib.hid hdr
          clear hkc hdr
          with_reducible refine (rT.pop_l HDR.out).mono ?_
          rintro e w4 ⟨rfl, hl4, hc4⟩
          have HL4 := Lib.hid (hl4.ch (S := []) ((Ch.refl _ _).alloc (.cells #[.int .i64 y.1, .string y.2] 50)) (by simp) (by simp))
          have hM4 := own_ch HMx.out hc4 HSR.out.2.1
          have HM4 := Lib.hid (hM4.alloc (.cells #[.int .i64 y.1, .string y.2] 50))
          have hB4 := HBx.out.trans (hc4.below S HSR.out.1 (by have := HZx.out; have := HSR.out.2.2; omega))
          have hZ4 := Nat.le_trans HZx.out hc4.size
          have HB4 := Lib.hid (hB4.alloc (by have := HSR.out.2.2; omega) (.cells #[.int .i64 y.1, .string y.2] 50))
          have HZ4 := Lib.hid (show R + 1 ≤ (w4.alloc (.cells #[.int .i64 y.1, .string y.2] 50)).heap.size by simp; omega)
          have HX4 := Lib.hid (Box2.new w4 (.int .i64 y.1) (.string y.2) 50)
          have hkg : gx < wx.heap.size := (HMx.out.lt gx rfl).2
          have hkR := (HMx.out.lt gx rfl).1
          have hke : gx ∉ [R, S] := by have := HSR.out.2.2; simp; omega
          have hk4 : w4.cell? ⟨gx, o * 2, none⟩ = some (.int .i64 y.1) := (hc4.cell (p := ⟨gx, o * 2, none⟩) hkg hke).trans HKC.out.1
          have hk5 : w4.cell? ⟨gx, o * 2 + 1, none⟩ = some (.string y.2) := (hc4.cell (p := ⟨gx, o * 2 + 1, none⟩) hkg hke).trans HKC.out.2
          have hk4 : (w4.alloc (.cells #[.int .i64 y.1, .string y.2] 50)).cell? ⟨gx, o * 2, none⟩ = some (.int .i64 y.1) := by rw [World.cell?_alloc_past _ _ _ (Nat.lt_of_lt_of_le hkg hc4.size)]; exact hk4
          have hk5 : (w4.alloc (.cells #[.int .i64 y.1, .string y.2] 50)).cell? ⟨gx, o * 2 + 1, none⟩ = some (.string y.2) := by rw [World.cell?_alloc_past _ _ _ (Nat.lt_of_lt_of_le hkg hc4.size)]; exact hk5
          clear hl4 hc4 hM4 hB4 hZ4 hkg hkR hke
          go_wp2_with fail
          generalize w4.alloc (.cells #[.int .i64 y.1, .string y.2] 50) = w5 at *
          obtain ⟨T, hT⟩ : ∃ T, T = w4.heap.size := ⟨_, rfl⟩
          rw [← hT] at HX4 ⊢
          clear hT
          have x0 := HX4.out.c0
          have x1 := HX4.out.c1
          go_quiet (fail)
          go_wp2
          go_roundw
          case rel => exact ⟨k + 1, o + 1, xs ++ [x], by omega, by go_num, by rw [← HNx.out] <;> go_num, by go_num, by rw [← HNx.out]; omega, by rw [← HNx.out]; omega, by omega, by rw [← HNx.out]; exact own_ch (S := []) HM4.out ((Ch.refl _ _).drewN _) (by simp), HL4.out.ch (S := []) ((Ch.refl _ _).drewN _) (by simp) (by simp), below_drewN HB4.out _, HZ4.out⟩
          case measure => simp [intOf]; omega
        · have hd5 : decide ((n : Int) - (o : Int) < (room : Int)) = false := by simp; omega
          have hd6 : ¬ (n : Int) - (o : Int) < (room : Int) := by omega
          have HM1 := Lib.hid (HM.out.alloc (.cells #[.int .i64 x.1, .string x.2] 50))
          have hform : ∃ gx capx, kv = .slice (some ⟨gx, 0, none⟩) n capx := own_some HM.out (by rintro rfl; rcases HM.out.2 with ⟨_, h⟩ | ⟨_, _, _, h, _⟩ <;> first | omega | cases h)
          obtain ⟨gx, capx, rfl⟩ := hform
          go_wp2_with fail
          refine (rT.push_l0 (HL.out.ch (S := []) ((Ch.refl _ _).alloc _) (by simp) (by simp)) (by rw [List.length_drop, ← HN.out]; omega) wr.heap.size).mono ?_
          rintro e w2 ⟨rfl, rfl⟩
          have HLx := Lib.hid (HL.out.ch (S := []) ((Ch.refl _ _).alloc (.cells #[.int .i64 x.1, .string x.2] 50)) (by simp) (by simp))
          have HMx := HM1
          have HBx := Lib.hid (HB.out.alloc (by have := HZ.out; have := HSR.out.2.2; omega) (.cells #[.int .i64 x.1, .string x.2] 50))
          have HZx := Lib.hid (show R + 1 ≤ (wr.alloc (.cells #[.int .i64 x.1, .string x.2] 50)).heap.size by have := HZ.out; simp; omega)
          have HNx := HN
          have hox : o < n := by omega
          have hoi : (o : Int) < (n : Int) := by omega
          generalize wr.alloc (.cells #[.int .i64 x.1, .string x.2] 50) = wx at *
          have hpb3 := (HBx.out.cell (p := ⟨b2, off2 + k, none⟩) hb2s).trans HPB.out
          go_wp2_with fail
          have hdr := HLx.out
          rw [drop_one (xs) o (by rw [← HNx.out]; exact hox)] at hdr
          have hkc := kept_cell HMx.out HNx.out o hox
          generalize (xs)[o]?.getD noTh = y at hdr hkc
          have HKC := Lib.hid hkc
          have HDR := Lib.hid hdr
          clear hkc hdr
          with_reducible refine (rT.pop_l HDR.out).mono ?_
          rintro e w4 ⟨rfl, hl4, hc4⟩
          have HL4 := Lib.hid (hl4.ch (S := []) ((Ch.refl _ _).alloc (.cells #[.int .i64 y.1, .string y.2] 50)) (by simp) (by simp))
          have hM4 := own_ch HMx.out hc4 HSR.out.2.1
          have HM4 := Lib.hid (hM4.alloc (.cells #[.int .i64 y.1, .string y.2] 50))
          have hB4 := HBx.out.trans (hc4.below S HSR.out.1 (by have := HZx.out; have := HSR.out.2.2; omega))
          have hZ4 := Nat.le_trans HZx.out hc4.size
          have HB4 := Lib.hid (hB4.alloc (by have := HSR.out.2.2; omega) (.cells #[.int .i64 y.1, .string y.2] 50))
          have HZ4 := Lib.hid (show R + 1 ≤ (w4.alloc (.cells #[.int .i64 y.1, .string y.2] 50)).heap.size by simp; omega)
          have HX4 := Lib.hid (Box2.new w4 (.int .i64 y.1) (.string y.2) 50)
          have hkg : gx < wx.heap.size := (HMx.out.lt gx rfl).2
          have hkR := (HMx.out.lt gx rfl).1
          have hke : gx ∉ [R, S] := by have := HSR.out.2.2; simp; omega
          have hk4 : w4.cell? ⟨gx, o * 2, none⟩ = some (.int .i64 y.1) := (hc4.cell (p := ⟨gx, o * 2, none⟩) hkg hke).trans HKC.out.1
          have hk5 : w4.cell? ⟨gx, o * 2 + 1, none⟩ = some (.string y.2) := (hc4.cell (p := ⟨gx, o * 2 + 1, none⟩) hkg hke).trans HKC.out.2
          have hk4 : (w4.alloc (.cells #[.int .i64 y.1, .string y.2] 50)).cell? ⟨gx, o * 2, none⟩ = some (.int .i64 y.1) := by rw [World.cell?_alloc_past _ _ _ (Nat.lt_of_lt_of_le hkg hc4.size)]; exact hk4
          have hk5 : (w4.alloc (.cells #[.int .i64 y.1, .string y.2] 50)).cell? ⟨gx, o * 2 + 1, none⟩ = some (.string y.2) := by rw [World.cell?_alloc_past _ _ _ (Nat.lt_of_lt_of_le hkg hc4.size)]; exact hk5
          clear hl4 hc4 hM4 hB4 hZ4 hkg hkR hke
          go_wp2_with fail
          generalize w4.alloc (.cells #[.int .i64 y.1, .string y.2] 50) = w5 at *
          obtain ⟨T, hT⟩ : ∃ T, T = w4.heap.size := ⟨_, rfl⟩
          rw [← hT] at HX4 ⊢
          clear hT
          have x0 := HX4.out.c0
          have x1 := HX4.out.c1
          go_quiet (fail)
          go_wp2
          go_roundw
          case rel => exact ⟨k + 1, o + 1, xs, by omega, by go_num, by rw [← HNx.out] <;> go_num, by go_num, by rw [← HNx.out]; omega, by rw [← HNx.out]; omega, by omega, by rw [← HNx.out]; exact own_ch (S := []) HM4.out ((Ch.refl _ _).drewN _) (by simp), HL4.out.ch (S := []) ((Ch.refl _ _).drewN _) (by simp) (by simp), below_drewN HB4.out _, HZ4.out⟩
          case measure => simp [intOf]; omega
      · have hb2s : b2 < S := by rw [HS.out]; exact cell_lt hpb
        have HPB := Lib.hid hpb
        have hkpi : (k : Int) < (plen : Int) := by omega
        clear hpb
        by_cases hroom : n - o < room
        · have hd5 : decide ((n : Int) - (o : Int) < (room : Int)) = true := by simp; omega
          have hd6 : (n : Int) - (o : Int) < (room : Int) := by omega
          go_wp2_with fail
          refine (rT.push_l1 (HL.out.ch (S := []) ((Ch.refl _ _).alloc _) (by simp) (by simp)) (by rw [List.length_drop, ← HN.out]; exact hroom) wr.heap.size x (by have := HZ.out; omega) (by have := HZ.out; have := HSR.out.2.2; omega) (Box2.new wr _ _ _)).mono ?_
          rintro e w2 ⟨rfl, hl2, hc2⟩
          rw [← drop_app xs x o (by rw [← HN.out]; exact ho)] at hl2
          have hM2 := own_ch (HM.out.alloc (.cells #[.int .i64 x.1, .string x.2] 50)) hc2 HSR.out.2.1
          have hZ2 : R + 1 ≤ w2.heap.size := Nat.le_trans (by have := HZ.out; simp; omega) hc2.size
          have hB2 : Below S w w2 := (HB.out.alloc (by have := HZ.out; have := HSR.out.2.2; omega) _).trans (hc2.below S HSR.out.1 (by have := HZ.out; have := HSR.out.2.2; simp; omega))
          have hc0 := (hB2.cell (p := ⟨b, off + k * 2, none⟩) hbs).trans HC0.out
          have hc1 := (hB2.cell (p := ⟨b, off + k * 2 + 1, none⟩) hbs).trans HC1.out
          have HM2 := Lib.hid hM2
          have HZ2 := Lib.hid hZ2
          have HB2 := Lib.hid hB2
          have HL2 := Lib.hid hl2
          clear hM2 hZ2 hB2 hc2 hl2
          go_wp2_with (at_builtin; go_must (refine wpList_append_own _ rfl _ _ 44 rfl (R + 1) 50 i0 (.agg #[.int .i64 0, .string ⟨#[]⟩]) 2 24 Try.underlying44 hI hz0 hz1 hz2 rfl (by decide) kv n (tvs xs) rfl (HM2.out.alloc _) ⟨w2.heap.size, 0, none⟩ 1 1 [.int .i64 x.1, .string x.2] rfl rfl (news_two _ _ _ _) (by simp [Value.oneCell']) (by unfold maxLen; omega) (by omega) (by have := HZ2.out; simp; omega) ?_); intro v3 w3 hown3 hgrow3 _; obtain ⟨gx, capx, rfl⟩ := ownsRow_succ hown3; have HB3 := Lib.hid (below3 HM2.out HB2.out HZ2.out HSR.out.2.2 hgrow3); have hpb3 := (HB3.out.cell (p := ⟨b2, off2 + k, none⟩) hb2s).trans HPB.out)
          have HLx := Lib.hid (rl3 HM2.out HL2.out HSR.out.2.2 hgrow3)
          have HMx : Hid (w3.ownsRow (R + 1) 50 2 (.slice (some ⟨gx, 0, none⟩) (n + 1) capx) (n + 1) (tvs (xs ++ [x]))) := by rw [tvs_app]; exact hown3
          have HBx := HB3
          have HZx := Lib.hid (Nat.le_trans HZ2.out (Nat.le_trans (by simp) hgrow3.size))
          have HNx := Lib.hid (show n + 1 = (xs ++ [x]).length by rw [List.length_append, ← HN.out]; rfl)
          have hox : o < n + 1 := by omega
          have hoi : (o : Int) < (n : Int) + 1 := by omega
          clear hown3 hgrow3 HM2 HL2 HB2 HZ2 hc0 hc1 HB3
          generalize w3 = wx at *
          go_roundw
          case rel => exact ⟨k + 1, o, xs ++ [x], by omega, by go_num, by rw [← HNx.out] <;> go_num, rfl, by rw [← HNx.out]; omega, by rw [← HNx.out]; omega, by omega, by rw [← HNx.out]; exact HMx.out, HLx.out, HBx.out, HZx.out⟩
          case measure => simp [intOf]; omega
        · have hd5 : decide ((n : Int) - (o : Int) < (room : Int)) = false := by simp; omega
          have hd6 : ¬ (n : Int) - (o : Int) < (room : Int) := by omega
          have HM1 := Lib.hid (HM.out.alloc (.cells #[.int .i64 x.1, .string x.2] 50))
          have hform : ∃ gx capx, kv = .slice (some ⟨gx, 0, none⟩) n capx := own_some HM.out (by rintro rfl; rcases HM.out.2 with ⟨_, h⟩ | ⟨_, _, _, h, _⟩ <;> first | omega | cases h)
          obtain ⟨gx, capx, rfl⟩ := hform
          go_wp2_with fail
          refine (rT.push_l0 (HL.out.ch (S := []) ((Ch.refl _ _).alloc _) (by simp) (by simp)) (by rw [List.length_drop, ← HN.out]; omega) wr.heap.size).mono ?_
          rintro e w2 ⟨rfl, rfl⟩
          have HLx := Lib.hid (HL.out.ch (S := []) ((Ch.refl _ _).alloc (.cells #[.int .i64 x.1, .string x.2] 50)) (by simp) (by simp))
          have HMx := HM1
          have HBx := Lib.hid (HB.out.alloc (by have := HZ.out; have := HSR.out.2.2; omega) (.cells #[.int .i64 x.1, .string x.2] 50))
          have HZx := Lib.hid (show R + 1 ≤ (wr.alloc (.cells #[.int .i64 x.1, .string x.2] 50)).heap.size by have := HZ.out; simp; omega)
          have HNx := HN
          have hox : o < n := by omega
          have hoi : (o : Int) < (n : Int) := by omega
          generalize wr.alloc (.cells #[.int .i64 x.1, .string x.2] 50) = wx at *
          have hpb3 := (HBx.out.cell (p := ⟨b2, off2 + k, none⟩) hb2s).trans HPB.out
          go_wp2_with fail
          go_roundw
          case rel => exact ⟨k + 1, o, xs, by omega, by go_num, by rw [← HNx.out] <;> go_num, rfl, by rw [← HNx.out]; omega, by rw [← HNx.out]; omega, by omega, by rw [← HNx.out]; exact HMx.out, HLx.out, HBx.out, HZx.out⟩
          case measure => simp [intOf]; omega
      · have hkpi : ¬ (k : Int) < (plen : Int) := by omega
        by_cases hroom : n - o < room
        · have hd5 : decide ((n : Int) - (o : Int) < (room : Int)) = true := by simp; omega
          have hd6 : (n : Int) - (o : Int) < (room : Int) := by omega
          go_wp2_with fail
          refine (rT.push_l1 (HL.out.ch (S := []) ((Ch.refl _ _).alloc _) (by simp) (by simp)) (by rw [List.length_drop, ← HN.out]; exact hroom) wr.heap.size x (by have := HZ.out; omega) (by have := HZ.out; have := HSR.out.2.2; omega) (Box2.new wr _ _ _)).mono ?_
          rintro e w2 ⟨rfl, hl2, hc2⟩
          rw [← drop_app xs x o (by rw [← HN.out]; exact ho)] at hl2
          have hM2 := own_ch (HM.out.alloc (.cells #[.int .i64 x.1, .string x.2] 50)) hc2 HSR.out.2.1
          have hZ2 : R + 1 ≤ w2.heap.size := Nat.le_trans (by have := HZ.out; simp; omega) hc2.size
          have hB2 : Below S w w2 := (HB.out.alloc (by have := HZ.out; have := HSR.out.2.2; omega) _).trans (hc2.below S HSR.out.1 (by have := HZ.out; have := HSR.out.2.2; simp; omega))
          have hc0 := (hB2.cell (p := ⟨b, off + k * 2, none⟩) hbs).trans HC0.out
          have hc1 := (hB2.cell (p := ⟨b, off + k * 2 + 1, none⟩) hbs).trans HC1.out
          have HM2 := Lib.hid hM2
          have HZ2 := Lib.hid hZ2
          have HB2 := Lib.hid hB2
          have HL2 := Lib.hid hl2
          clear hM2 hZ2 hB2 hc2 hl2
          go_wp2_with (at_builtin; go_must (refine wpList_append_own _ rfl _ _ 44 rfl (R + 1) 50 i0 (.agg #[.int .i64 0, .string ⟨#[]⟩]) 2 24 Try.underlying44 hI hz0 hz1 hz2 rfl (by decide) kv n (tvs xs) rfl (HM2.out.alloc _) ⟨w2.heap.size, 0, none⟩ 1 1 [.int .i64 x.1, .string x.2] rfl rfl (news_two _ _ _ _) (by simp [Value.oneCell']) (by unfold maxLen; omega) (by omega) (by have := HZ2.out; simp; omega) ?_); intro v3 w3 hown3 hgrow3 _; obtain ⟨gx, capx, rfl⟩ := ownsRow_succ hown3; have HB3 := Lib.hid (below3 HM2.out HB2.out HZ2.out HSR.out.2.2 hgrow3); skip)
          have HLx := Lib.hid (rl3 HM2.out HL2.out HSR.out.2.2 hgrow3)
          have HMx : Hid (w3.ownsRow (R + 1) 50 2 (.slice (some ⟨gx, 0, none⟩) (n + 1) capx) (n + 1) (tvs (xs ++ [x]))) := by rw [tvs_app]; exact hown3
          have HBx := HB3
          have HZx := Lib.hid (Nat.le_trans HZ2.out (Nat.le_trans (by simp) hgrow3.size))
          have HNx := Lib.hid (show n + 1 = (xs ++ [x]).length by rw [List.length_append, ← HN.out]; rfl)
          have hox : o < n + 1 := by omega
          have hoi : (o : Int) < (n : Int) + 1 := by omega
          clear hown3 hgrow3 HM2 HL2 HB2 HZ2 hc0 hc1 HB3
          generalize w3 = wx at *
          go_roundw
          case rel => exact ⟨k + 1, o, xs ++ [x], by omega, by go_num, by rw [← HNx.out] <;> go_num, rfl, by rw [← HNx.out]; omega, by rw [← HNx.out]; omega, by omega, by rw [← HNx.out]; exact HMx.out, HLx.out, HBx.out, HZx.out⟩
          case measure => simp [intOf]; omega
        · have hd5 : decide ((n : Int) - (o : Int) < (room : Int)) = false := by simp; omega
          have hd6 : ¬ (n : Int) - (o : Int) < (room : Int) := by omega
          have HM1 := Lib.hid (HM.out.alloc (.cells #[.int .i64 x.1, .string x.2] 50))
          have hform : ∃ gx capx, kv = .slice (some ⟨gx, 0, none⟩) n capx := own_some HM.out (by rintro rfl; rcases HM.out.2 with ⟨_, h⟩ | ⟨_, _, _, h, _⟩ <;> first | omega | cases h)
          obtain ⟨gx, capx, rfl⟩ := hform
          go_wp2_with fail
          refine (rT.push_l0 (HL.out.ch (S := []) ((Ch.refl _ _).alloc _) (by simp) (by simp)) (by rw [List.length_drop, ← HN.out]; omega) wr.heap.size).mono ?_
          rintro e w2 ⟨rfl, rfl⟩
          have HLx := Lib.hid (HL.out.ch (S := []) ((Ch.refl _ _).alloc (.cells #[.int .i64 x.1, .string x.2] 50)) (by simp) (by simp))
          have HMx := HM1
          have HBx := Lib.hid (HB.out.alloc (by have := HZ.out; have := HSR.out.2.2; omega) (.cells #[.int .i64 x.1, .string x.2] 50))
          have HZx := Lib.hid (show R + 1 ≤ (wr.alloc (.cells #[.int .i64 x.1, .string x.2] 50)).heap.size by have := HZ.out; simp; omega)
          have HNx := HN
          have hox : o < n := by omega
          have hoi : (o : Int) < (n : Int) := by omega
          generalize wr.alloc (.cells #[.int .i64 x.1, .string x.2] 50) = wx at *
          go_wp2_with fail
          go_roundw
          case rel => exact ⟨k + 1, o, xs, by omega, by go_num, by rw [← HNx.out] <;> go_num, rfl, by rw [← HNx.out]; omega, by rw [← HNx.out]; omega, by omega, by rw [← HNx.out]; exact HMx.out, HLx.out, HBx.out, HZx.out⟩
          case measure => simp [intOf]; omega
    · have hex : ¬ ((k : Int) < (len : Int)) ∨ (((k : Int) < (len : Int)) ∧ decide ((k : Int) < 80) = false) := by
        by_cases h1 : k < len
        · exact .inr ⟨by omega, by simp; omega⟩
        · exact .inl (by omega)
      clear hlt
      rcases hex with hex | ⟨hex, hex2⟩
      all_goals
        go_wp2_with fail
        go_loopw [10] (fun sout wq => ∃ (o : Nat), sout = .int .i64 (o : Int) ∧ o ≤ n ∧ wq.ownsRow (R + 1) 50 2 kv n (tvs xs) ∧ RL wq R S room (xs.drop o) ∧ Below S w wq ∧ R + 1 ≤ wq.heap.size) (fun sout _ => n - (intOf sout).toNat)
        case atStart => exact ⟨o, rfl, ho, HM.out, HL.out, HB.out, HZ.out⟩
        case round =>
          obtain ⟨wx, rfl⟩ : ∃ wx : World, wx = wr := ⟨_, rfl⟩
          clear HM HL HB HZ
          obtain ⟨o, rfl, hox', hm, hl, hb, hsz⟩ := hrel
          have HMx := Lib.hid hm
          have HLx := Lib.hid hl
          have HBx := Lib.hid hb
          have HZx := Lib.hid hsz
          have HNx := HN
          clear hm hl hb hsz
          by_cases hox : o < n
          · have hoi : (o : Int) < (n : Int) := by omega
            have hform : ∃ gx capx, kv = .slice (some ⟨gx, 0, none⟩) n capx := own_some HMx.out (by rintro rfl; rcases HMx.out.2 with ⟨_, h⟩ | ⟨_, _, _, h, _⟩ <;> first | omega | cases h)
            obtain ⟨gx, capx, rfl⟩ := hform
            go_wp2_with fail
            have hdr := HLx.out
            rw [drop_one (xs) o (by rw [← HNx.out]; exact hox)] at hdr
            have hkc := kept_cell HMx.out HNx.out o hox
            generalize (xs)[o]?.getD noTh = y at hdr hkc
            have HKC := Lib.hid hkc
            have HDR := Lib.hid hdr
            clear hkc hdr
            with_reducible refine (rT.pop_l HDR.out).mono ?_
            rintro e w4 ⟨rfl, hl4, hc4⟩
            have HL4 := Lib.hid (hl4.ch (S := []) ((Ch.refl _ _).alloc (.cells #[.int .i64 y.1, .string y.2] 50)) (by simp) (by simp))
            have hM4 := own_ch HMx.out hc4 HSR.out.2.1
            have HM4 := Lib.hid (hM4.alloc (.cells #[.int .i64 y.1, .string y.2] 50))
            have hB4 := HBx.out.trans (hc4.below S HSR.out.1 (by have := HZx.out; have := HSR.out.2.2; omega))
            have hZ4 := Nat.le_trans HZx.out hc4.size
            have HB4 := Lib.hid (hB4.alloc (by have := HSR.out.2.2; omega) (.cells #[.int .i64 y.1, .string y.2] 50))
            have HZ4 := Lib.hid (show R + 1 ≤ (w4.alloc (.cells #[.int .i64 y.1, .string y.2] 50)).heap.size by simp; omega)
            have HX4 := Lib.hid (Box2.new w4 (.int .i64 y.1) (.string y.2) 50)
            have hkg : gx < wx.heap.size := (HMx.out.lt gx rfl).2
            have hkR := (HMx.out.lt gx rfl).1
            have hke : gx ∉ [R, S] := by have := HSR.out.2.2; simp; omega
            have hk4 : w4.cell? ⟨gx, o * 2, none⟩ = some (.int .i64 y.1) := (hc4.cell (p := ⟨gx, o * 2, none⟩) hkg hke).trans HKC.out.1
            have hk5 : w4.cell? ⟨gx, o * 2 + 1, none⟩ = some (.string y.2) := (hc4.cell (p := ⟨gx, o * 2 + 1, none⟩) hkg hke).trans HKC.out.2
            have hk4 : (w4.alloc (.cells #[.int .i64 y.1, .string y.2] 50)).cell? ⟨gx, o * 2, none⟩ = some (.int .i64 y.1) := by rw [World.cell?_alloc_past _ _ _ (Nat.lt_of_lt_of_le hkg hc4.size)]; exact hk4
            have hk5 : (w4.alloc (.cells #[.int .i64 y.1, .string y.2] 50)).cell? ⟨gx, o * 2 + 1, none⟩ = some (.string y.2) := by rw [World.cell?_alloc_past _ _ _ (Nat.lt_of_lt_of_le hkg hc4.size)]; exact hk5
            clear hl4 hc4 hM4 hB4 hZ4 hkg hkR hke
            go_wp2_with fail
            generalize w4.alloc (.cells #[.int .i64 y.1, .string y.2] 50) = w5 at *
            obtain ⟨T, hT⟩ : ∃ T, T = w4.heap.size := ⟨_, rfl⟩
            rw [← hT] at HX4 ⊢
            clear hT
            have x0 := HX4.out.c0
            have x1 := HX4.out.c1
            go_quiet (fail)
            go_wp2
            go_roundw
            case rel => exact ⟨o + 1, by go_num, by omega, own_ch (S := []) HM4.out ((Ch.refl _ _).drewN _) (by simp), HL4.out.ch (S := []) ((Ch.refl _ _).drewN _) (by simp) (by simp), below_drewN HB4.out _, HZ4.out⟩
            case measure => simp [intOf]; omega
          · obtain rfl : o = n := by omega
            have hnil : xs.drop o = [] := List.drop_of_length_le (by rw [← HN.out]; exact Nat.le_refl _)
            have hl0 := HLx.out
            rw [hnil] at hl0
            have HL0 := Lib.hid hl0
            clear hnil hl0 hox
            go_wp2_with fail
            refine (rT.pop_out HL0.out).mono ?_
            rintro e w4 ⟨rfl, hc4⟩
            have HL4 := Lib.hid ((HL0.out.ch hc4 (by simp) (by simp)).ch (S := []) ((Ch.refl _ _).alloc (.cells #[.int .i64 0, .string ⟨#[]⟩] 50)) (by simp) (by simp))
            have hB4 := HBx.out.trans (hc4.below S (by simp) (by have := HZx.out; have := HSR.out.2.2; omega))
            have HB4 := Lib.hid (hB4.alloc (by have := HZx.out; have := HSR.out.2.2; have := hc4.size; omega) (.cells #[.int .i64 0, .string ⟨#[]⟩] 50))
            have HZ4 := Lib.hid (show S ≤ (w4.alloc (.cells #[.int .i64 0, .string ⟨#[]⟩] 50)).heap.size by have := HZx.out; have := HSR.out.2.2; have := hc4.size; simp; omega)
            clear hc4 hB4
            go_wp2_with fail
            refine (rI.known_any _).mono ?_
            rintro e w5 ⟨rfl, hb5⟩
            have HL5 := Lib.hid (rT.len_l (HL4.out.ch (S := []) (Ch.of_below hb5) (by simp) (by simp)))
            have HB5 := Lib.hid (HB4.out.trans (hb5.mono HZ4.out))
            clear hb5
            go_wp2_with fail
            refine HL5.out.mono ?_
            rintro e w' ⟨rfl, rfl⟩
            go_wp2
            go_ret
            exact ⟨rfl, HB5.out⟩
end Go.Proofs.Ytkjkaihbpccdmaa

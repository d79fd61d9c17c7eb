/-
  Contracts of the document's answer for layer 2: Push; Same.
-/
import Derived.Laws.OwnMore
import Derived.Laws.AppendOwnNone
import Derived.Test.YtkjkaihbpccdmaaRingR
namespace Go.Proofs.Ytkjkaihbpccdmaa
open Go.RowKit rI

attribute [local go_sem] Oper.semAt_some

theorem own_some {w : World} {B e s : Nat} {v : Value} {n : Nat} {xs : List Value} (h : w.ownsRow B e s v n xs) (hne : v ≠ .slice none 0 0) : ∃ g cp, v = .slice (some ⟨g, 0, none⟩) n cp := by
  rcases h.2 with ⟨rfl, _⟩ | ⟨g, cp, cur, rfl, _⟩
  · exact absurd rfl hne
  · exact ⟨g, cp, rfl⟩

/-- append of a row that may be nil to a row of the call's own. -/
theorem wpList_append_row {P : Program} {w : World} {ops : Array Oper} {rest : List Oper} {o : Oper} {a : Act} {Q : Exit → Act → World → Prop} (hgd : o.guard = none) (s x : Operand) (t : TypeId)
    (ho : o.op = .call { callee := .builtin .append, args := #[s, x], argTypes := #[t, t] })
    (base : Nat) (e : TypeId) (i : TypeInfo) (z : Value) (size bytes : Nat) (ht : P.underlying t = some (.slice e)) (hi : P.info? e = some i) (hz : i.zero = some z)
    (hsize : i.size = size) (hby : i.bytes = bytes) (hzs : z.cells.size = size) (hsz : 0 < size)
    (v : Value) (n : Nat) (xs : List Value) (hs : a.eval s = v) (hown : w.ownsRow base e size v n xs) (hne : v ≠ .slice none 0 0)
    (S : Nat) (vx : Value) (m : Nat) (news : List Value) (hx : a.eval x = vx) (hsrc : w.ownsRow S e size vx m news) (h1 : ∀ u ∈ news, u.oneCell' = true)
    (h63 : n + m ≤ maxLen) (hbytes : (n + m) * bytes ≤ 140737488355328) (hbase : base ≤ w.heap.size)
    (h : ∀ v' w', w'.ownsRow base e size v' (n + m) (xs ++ news) → w.grownBy w' v.ownBlock → v' ≠ .slice none 0 0 → wpList P ops Q rest (a.put o.dst v') w') : wpList P ops Q (o :: rest) a w := by
  have hl := hsrc.1
  rcases hsrc.2 with ⟨rfl, rfl⟩ | ⟨g, cp, cur, rfl, _⟩
  · obtain rfl : news = [] := List.eq_nil_of_length_eq_zero (by simpa using hl)
    refine wpList_append_own_none hgd s x t ho base e i size ht hi v n xs hs hown hx (h v w (by simpa using hown) ⟨rfl, rfl, rfl, Nat.le_refl _, fun _ _ _ => rfl⟩ hne)
  · exact wpList_append_own w hgd s x t ho base e i z size bytes ht hi hz hsize hby hzs hsz v n xs hs hown ⟨g, 0, none⟩ m cp news hx hl (hsrc.cells rfl) h1 h63 hbytes hbase
      (fun v' w' h2 h3 h4 => h v' w' h2 h3 (fun e => hne (h4.1 e).1))

theorem take_app (xs zs : List Int) (k : Nat) (h : k < zs.length) : xs ++ zs.take (k + 1) = (xs ++ zs.take k) ++ [zs[k]?.getD 0] := by
  rw [List.take_succ_eq_append_getElem h]
  simp [h]
theorem ivs_snoc (l : List Int) (x : Int) : ivs (l ++ [x]) = ivs l ++ [.int .i64 x] := by simp [ivs]

set_option maxHeartbeats 2000000 in
theorem rpush_any {w : World} {S : Nat} {v : Value} {xs : List Int} (h : w.ownsRow S 3 1 v xs.length (ivs xs)) (room : Nat) (hx : xs.length ≤ room) (hr : room ≤ 256)
    (a : Option Addr) (cap : Nat) (zs : List Int) (hz : IAt w a zs) (hl : zs.length ≤ 9223372036854775807) :
    Calls Try.prog 9 #[v, .slice a zs.length cap, .int .i64 (room : Int)] w fun e w' => ∃ v', e = .returned (.tuple #[v', .int .i64 ((min zs.length (room - xs.length) : Nat) : Int)]) ∧
      w'.ownsRow w.heap.size 3 1 v' (xs ++ zs.take (room - xs.length)).length (ivs (xs ++ zs.take (room - xs.length))) ∧ Below w.heap.size w w' := by
  obtain ⟨i0, hI, hz0, hz1, hz2⟩ := info_parts infoE
  obtain ⟨n, hn⟩ : ∃ n, n = xs.length := ⟨_, rfl⟩
  obtain ⟨zl, hzl⟩ : ∃ zl, zl = zs.length := ⟨_, rfl⟩
  rw [← hn] at h hx ⊢
  rw [← hzl] at hl ⊢
  have HX := Lib.hid hn
  have HZL := Lib.hid hzl
  have HZ := Lib.hid hz
  have HH := Lib.hid h
  clear hn hzl hz
  have hone : ∀ u ∈ ivs xs, u.oneCell' = true := by intro u hu; obtain ⟨b, _, rfl⟩ := List.mem_map.1 hu; rfl
  have HOne := Lib.hid hone
  clear h hone
  go_enter Try.func9, Try.ntmps9
  go_wp2_with (at_builtin; go_must (refine wpList_append_row rfl _ _ 28 rfl w.heap.size 3 i0 (.int .i64 0) 1 8 Try.underlying28 hI hz0 hz1 hz2 rfl (by decide) (.slice (some ⟨w.heap.size, 0, none⟩) 0 0) 0 [] rfl ?c0 ?c1 S v n (ivs xs) rfl ?c2 HOne.out ?c3 ?c4 ?c5 ?_))
  case c0 => exact World.ownsRow_lit w #[] 0 (Nat.le_refl _) (Nat.zero_le _) rfl
  case c1 => intro e; cases e
  case c2 => exact HH.out.alloc _
  case c3 => unfold maxLen; omega
  case c4 => omega
  case c5 => simp
  intro v1 w1 hown1 hgrow1 hne1
  have hB1 : Below w.heap.size w w1 := ((Below.refl _ _).alloc (Nat.le_refl _) _).grown hgrow1 (by simp) (fun k e => by cases e; exact Nat.le_refl _)
  obtain ⟨g1, cp1, rfl⟩ := own_some hown1 hne1
  have HO1 := Lib.hid hown1
  have HB1 := Lib.hid hB1
  have HZ1 := Lib.hid (HZ.out)
  clear hown1 hB1 hgrow1 hne1
  go_wp2
  go_loopw [8, 9, 10] (fun out nn ii wr => ∃ (k g cp : Nat), k ≤ zl ∧ n + k ≤ room ∧ nn = .int .i64 (k : Int) ∧ ii = .int .i64 (k : Int) ∧ out = .slice (some ⟨g, 0, none⟩) (n + k) cp ∧
      wr.ownsRow w.heap.size 3 1 (.slice (some ⟨g, 0, none⟩) (n + k) cp) (n + k) (ivs (xs ++ zs.take k)) ∧ Below w.heap.size w wr) (fun _ _ ii _ => zl - (intOf ii).toNat)
  case atStart => exact ⟨0, g1, cp1, Nat.zero_le _, hx, rfl, rfl, rfl, by simpa using HO1.out, HB1.out⟩
  case round =>
    obtain ⟨k, g, cp, hk, hnk, rfl, rfl, rfl, hO, hB⟩ := hrel
    have HO := Lib.hid hO
    have HB := Lib.hid hB
    clear hO hB
    by_cases hlt : k < zl
    · by_cases hlr : n + k < room
      · rcases HZ.out.ch (S := []) (Ch.of_below HB.out) (by simp) with h0 | ⟨b, off, rfl, hc0⟩
        · exfalso; have := HZL.out; rw [h0] at this; simp at this; omega
        · have hc := hc0 k (by have := HZL.out; omega)
          have HT := Lib.hid (take_app xs zs k (by rw [← HZL.out]; exact hlt))
          have hg : zs[k]'(by rw [← HZL.out]; exact hlt) = zs[k]?.getD 0 := by simp [show k < zs.length by rw [← HZL.out]; exact hlt]
          rw [hg] at hc
          clear hg hc0
          generalize zs[k]?.getD 0 = z at hc HT
          have hO := HO.out
          have hbs := HB.out.size
          go_wp2_with (at_builtin; go_must (refine wpList_append_own _ rfl _ _ 28 rfl w.heap.size 3 i0 (.int .i64 0) 1 8 Try.underlying28 hI hz0 hz1 hz2 rfl (by decide) (.slice (some ⟨g, 0, none⟩) (n + k) cp) (n + k) (ivs (xs ++ zs.take k)) rfl (hO.alloc _) ⟨wr.heap.size, 0, none⟩ 1 1 [.int .i64 z] rfl rfl (cell_one_new _ _ _) (by simp [Value.oneCell']) (by unfold maxLen; omega) (by omega) (by simp; omega) ?_); intro v2 w2 hown2 hgrow2 _; obtain ⟨g2, cp2, rfl⟩ := ownsRow_succ hown2)
          go_roundw
          case rel =>
            refine ⟨k + 1, g2, cp2, by omega, by omega, by go_num, by go_num, rfl, ?_, (HB.out.alloc hbs _).grown hgrow2 (by simp; omega) (fun j e => (HO.out.lt j e).1)⟩
            rw [HT.out, ivs_snoc]
            exact hown2
          case measure => simp [intOf]; omega
      · have hd1 : decide ((k : Int) < (zl : Int)) = true := by simp; exact hlt
        have hd2 : decide ((n : Int) + (k : Int) < (room : Int)) = false := by simp; omega
        have hd3 : decide (n + k < room) = false := by simp; omega
        go_wp2
        go_ret2
        refine ⟨.slice (some ⟨g, 0, none⟩) (n + k) cp, by rw [show min zl (room - n) = k by omega]; rfl, ?_, HB.out⟩
        rw [show room - n = k by omega, show (xs ++ zs.take k).length = n + k by rw [List.length_append, List.length_take, ← HX.out, ← HZL.out]; omega]
        exact HO.out
    · obtain rfl : k = zl := by omega
      go_wp2
      go_ret2
      have e : zs.take (room - n) = zs.take k := by rw [List.take_of_length_le (by rw [← HZL.out]; omega), List.take_of_length_le (by rw [← HZL.out]; omega)]
      refine ⟨.slice (some ⟨g, 0, none⟩) (n + k) cp, by rw [show min k (room - n) = k by omega]; rfl, ?_, HB.out⟩
      rw [e, show (xs ++ zs.take k).length = n + k by rw [List.length_append, List.length_take, ← HX.out, ← HZL.out]; omega]
      exact HO.out

set_option maxHeartbeats 1000000 in
theorem same_eq (a1 a2 : Option Addr) (cap1 cap2 : Nat) (zs : List Int) (w : World) (hl : zs.length ≤ 9223372036854775807) (h1 : rI.IAt w a1 zs) (h2 : rI.IAt w a2 zs) :
    Calls Try.prog 17 #[.slice a1 zs.length cap1, .slice a2 zs.length cap2] w fun e w' => e = .returned (.bool true) ∧ ∃ m, w' = w.drewN m := by
  obtain ⟨n, hn⟩ : ∃ n, n = zs.length := ⟨_, rfl⟩
  rw [← hn] at hl ⊢
  have HN := Lib.hid hn
  have H1 := Lib.hid h1
  have H2 := Lib.hid h2
  clear hn h1 h2
  go_enter Try.func17, Try.ntmps17
  go_wp2
  go_loopw [5] (fun i wr => ∃ k m : Nat, k ≤ n ∧ i = .int .i64 (k : Int) ∧ wr = w.drewN m) (fun i _ => n - (intOf i).toNat)
  case atStart => exact ⟨0, 0, by omega, rfl, rfl⟩
  case round =>
    obtain ⟨k, m, hk, rfl, rfl⟩ := hrel
    by_cases hlt : k < n
    · rcases H1.out with h0 | ⟨b, off, rfl, hc⟩
      · exfalso; rw [HN.out, h0] at hlt; simp at hlt
      · rcases H2.out with h0 | ⟨b2, off2, rfl, hc2⟩
        · exfalso; rw [HN.out, h0] at hlt; simp at hlt
        · have hc := hc k (by rw [← HN.out]; exact hlt)
          have hc2 := hc2 k (by rw [← HN.out]; exact hlt)
          generalize zs[k]'(by rw [← HN.out]; exact hlt) = z at hc hc2
          have hzz : (z != z) = false := by simp
          go_wp2
          go_quiet (fail)
          go_wp2
          go_roundw
          case rel => exact ⟨k + 1, _, by omega, by go_num, rfl⟩
          case measure => simp [intOf]; omega
    · go_wp2
      go_ret
      exact ⟨rfl, m, rfl⟩
end Go.Proofs.Ytkjkaihbpccdmaa

/-
  The document's answer for counts by keys: Hold.
-/
import Derived.Test.YtbjlkmmijdhgoaaCoRA
namespace Go.Proofs.Ytbjlkmmijdhgoaa
open Go.RowKit

attribute [local go_sem] Oper.semAt_some

/-- What a count among those told is: as a count in memory. -/
def okC (top : Nat) (x : Ct Int) : Prop := 1 ≤ x.2.1 ∧ x.2.1 ≤ top ∧ (x.2.2 = true → x.2.1 = top)

/-- Where an answer's list lies: where it lay, or in a new row. -/
def Lies (w : World) (v v' : Value) : Prop := v' = v ∨ ∀ b, v'.ownBlock = some b → w.heap.size ≤ b

set_option maxRecDepth 4000 in
set_option maxHeartbeats 2000000 in
theorem rhold_in {w : World} {D top : Nat} {v : Value} {A B : List (Ct Int)} {k : Int} {n n' : Nat} {s s' : Bool} {E : Int} (h : RK w D v top (A ++ (k, n, s) :: B)) (hD : D ≤ w.heap.size) (hA : ∀ x ∈ A, x.1 ≠ k) (hl : (A ++ (k, n, s) :: B).length ≤ 64) (ht : top ≤ 65535) (hok : okC top (k, n, s))
    (hG : getN n top s = (n', s', E)) :
    Calls Try.prog 19 #[v, .int .i64 k, .int .i64 (top : Int)] w fun e w' => ∃ v', e = .returned (.tuple #[v', .int .i64 E]) ∧ RK w' D v' top (A ++ (k, n', s') :: B) ∧ Ch [] w w' ∧ Lies w v v' := by
  obtain ⟨i0, hI, hz0, hz1, hz2⟩ := info_parts infoY
  have HF := Lib.hid (rfind_in h hA hl)
  obtain ⟨m, hm⟩ : ∃ m, m = A ++ (k, n, s) :: B := ⟨_, rfl⟩
  obtain ⟨a, hla⟩ : ∃ a, a = A.length := ⟨_, rfl⟩
  rw [← hm] at h hl
  rw [← hla] at HF
  have hma : m[a]? = some (k, n, s) := by rw [hm, hla]; simp
  have hset : m.set a (k, n', s') = A ++ (k, n', s') :: B := by rw [hm, hla]; simp
  rw [← hset]
  obtain ⟨g, cap, rfl, hDg, hgl, hlc, hcm, c0, c1, c2, c3, hf⟩ := h.cells hma
  obtain ⟨L, hL⟩ : ∃ L, L = m.length := ⟨_, rfl⟩
  have haL : a < L := by rw [hL]; exact (List.getElem?_eq_some_iff.1 hma).1
  have H := Lib.hid h
  have HMa := Lib.hid hma
  have HL := Lib.hid hL
  have HOne := Lib.hid (rk_one top m)
  have HG := Lib.hid (fun W => rget_at W ht hok.2.1 hok.2.2 hG)
  rw [← hL] at hl hlc HF ⊢
  have hb0 : (0 : Int) ≤ (a : Int) := by omega
  have hb1 : (a : Int) < (L : Int) := by omega
  have htn : ((a : Int)).toNat = a := rfl
  have c2' : w.cell? ⟨g, a * 4 + 1 + 1, none⟩ = some (.int .i64 (top : Int)) := c2
  have c3' : w.cell? ⟨g, a * 4 + 1 + 2, none⟩ = some (.bool s) := c3
  clear h hm hla hma hset hL hA hok hG hf
  go_enter Try.func19, Try.ntmps19
  go_wp2_with fail
  with_reducible refine HF.out.mono ?_
  rintro e w1 ⟨rfl, rfl⟩
  go_wp2_with fail
  with_reducible refine (HG.out w1).mono ?_
  rintro e w2 ⟨rfl, hc2⟩
  have hc3 := hc2.alloc (.cells #[.int .i64 (n' : Int), .int .i64 (top : Int), .bool s'] 30)
  have HX := Lib.hid (Box3.new w2 n' top s' 30)
  have H3 := Lib.hid (H.out.quiet hc3)
  have HC3 := Lib.hid hc3
  obtain ⟨X, hX⟩ : ∃ X, X = w2.heap.size := ⟨_, rfl⟩
  rw [← hX] at HX
  have HXe := Lib.hid hX
  have HSz := Lib.hid hc2.size
  clear hc2 hc3 hX c0 c1 c2 c3 c2' c3'
  go_wp2_with (at_builtin; go_must (refine wpList_append_row rfl _ _ 47 rfl w2.heap.size 59 i0 (.agg #[.int .i64 0, .int .i64 0, .int .i64 0, .bool false]) 4 32 Try.underlying47 hI hz0 hz1 hz2 rfl (by decide) (.slice (some ⟨w2.heap.size + 1, 0, none⟩) 0 0) 0 [] rfl ?c0 ?c1 D (.slice (some ⟨g, 0, none⟩) L cap) L (rk top m) rfl ?c2 HOne.out ?c3 ?c4 ?c5 ?_))
  case c0 =>
    have := World.ownsRow_lit (base := w2.heap.size) (e := 59) (size := 4) (w2.alloc (.cells #[.int .i64 (n' : Int), .int .i64 (top : Int), .bool s'] 30)) #[] 0 (by simp) (Nat.zero_le _) rfl
    rw [World.size_alloc] at this
    exact this
  case c1 => intro e; cases e
  case c2 => have := World.ownsRow.alloc (H3.out) (.cells #[] 59); unfold RK at *; rw [← HL.out] at this; exact this
  case c3 => unfold maxLen; omega
  case c4 => omega
  case c5 => simp; omega
  intro v1 w4 hown1 hgrow1 hne1
  replace hown1 : w4.ownsRow w2.heap.size 59 4 v1 L (rk top m) := by simpa using hown1
  obtain ⟨g1, cp1, rfl⟩ := own_some hown1 hne1
  have hR4 : RK w4 w2.heap.size (.slice (some ⟨g1, 0, none⟩) L cp1) top m := by unfold RK; rw [← HL.out]; exact hown1
  have hgb : w2.heap.size ≤ g1 := (World.ownsRow.lt hR4 g1 rfl).1
  have hbx := HX.out.alloc (.cells #[] 59)
  have hne : some X ≠ (Value.slice (some ⟨w2.heap.size + 1, 0, none⟩) 0 0).ownBlock := by rw [HXe.out]; simp [Value.ownBlock]
  have x0 := hgrow1.cell hbx.c0 hne
  have x1 := hgrow1.cell hbx.c1 hne
  have x2 := hgrow1.cell hbx.c2 hne
  rw [HXe.out] at x0 x1 x2
  have HC4 := Lib.hid ((HC3.out.alloc (.cells #[] 59)).kept hgrow1 (fun r e => by have := HSz.out; simp [Value.ownBlock] at e; omega))
  obtain ⟨g', cap', e, _, _, _, _, y0, y1, y2, y3, hf⟩ := hR4.cells HMa.out
  rw [← HL.out] at e
  obtain ⟨rfl, rfl⟩ : g1 = g' ∧ cp1 = cap' := by simpa using e
  clear e
  have y2' : w4.cell? ⟨g1, a * 4 + 1 + 1, none⟩ = some (.int .i64 (top : Int)) := y2
  have y3' : w4.cell? ⟨g1, a * 4 + 1 + 2, none⟩ = some (.bool s) := y3
  have f1 := hf (a * 4 + 1)
  have f2 := hf (a * 4 + 1 + 1)
  have f3 := hf (a * 4 + 1 + 2)
  have hs1 := own_set hown1 (a * 4 + 1) (.int .i64 (n' : Int)) (by omega)
  have hs2 := own_set hs1 (a * 4 + 1 + 1) (.int .i64 (top : Int)) (by omega)
  have hs3 := own_set hs2 (a * 4 + 1 + 2) (.bool s') (by omega)
  have hset := rk_set top m a (k, n, s) (k, n', s') HMa.out rfl
  have HR5 := Lib.hid (show RK (((w4.setCell ⟨g1, a * 4 + 1, none⟩ (.int .i64 (n' : Int))).setCell ⟨g1, a * 4 + 1 + 1, none⟩ (.int .i64 (top : Int))).setCell ⟨g1, a * 4 + 1 + 2, none⟩ (.bool s')) w2.heap.size (.slice (some ⟨g1, 0, none⟩) L cp1) top (m.set a (k, n', s')) by
    unfold RK
    rw [List.length_set, ← HL.out, ← hset]
    exact hs3)
  have HC5 := Lib.hid (((HC4.out.setCell2 (p := ⟨g1, a * 4 + 1, none⟩) (.inr (by have := HSz.out; simp; omega)) (.int .i64 (n' : Int))).setCell2 (p := ⟨g1, a * 4 + 1 + 1, none⟩) (.inr (by have := HSz.out; simp; omega)) (.int .i64 (top : Int))).setCell2 (p := ⟨g1, a * 4 + 1 + 2, none⟩) (.inr (by have := HSz.out; simp; omega)) (.bool s'))
  have HGb := Lib.hid hgb
  clear hown1 hgrow1 hne1 hR4 hbx hne hf hs1 hs2 hs3 hset hgb y2 y3
  go_wp2
  refine bodyPost_ret (v := .tuple #[.slice (some ⟨g1, 0, none⟩) L cp1, .int .i64 E]) ?_ rfl ?_
  · simp [results, Try.f19, go_sem]
  · exact ⟨_, rfl, HR5.out.mono (by have := HSz.out; omega), HC5.out, .inr (fun b e => by have := HSz.out; have := HGb.out; simp [Value.ownBlock] at e; omega)⟩
end Go.Proofs.Ytbjlkmmijdhgoaa

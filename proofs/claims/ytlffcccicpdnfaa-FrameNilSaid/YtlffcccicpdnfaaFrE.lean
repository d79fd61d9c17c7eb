/-
  New; is there a reference among some things?
-/
import Derived.Test.YtlffcccicpdnfaaFrD
import Derived.Laws.IdiomCopy
namespace Go.Proofs.Ytlffcccicpdnfaa
open Go.RowKit Go.BigFrame

attribute [local go_sem] Oper.semAt_some

/-- Things in memory. -/
def ValsAt (w : World) (a : Option Addr) (L : List V5) : Prop := L = [] ∨ ∃ b off, a = some ⟨b, off, none⟩ ∧ ∀ i (hi : i < L.length), At5 w b (off + i * 5) L[i]
theorem ValsAt.ch {S : List Nat} {w w' : World} {a : Option Addr} {L : List V5} (h : ValsAt w a L) (hc : Ch S w w') (hS : ∀ y, a = some y → y.block ∉ S) : ValsAt w' a L := by
  rcases h with rfl | ⟨b, off, rfl, hk⟩
  · exact .inl rfl
  · exact .inr ⟨b, off, rfl, fun i hi => (hk i hi).ch hc (hS ⟨b, off, none⟩ rfl)⟩
theorem vals_range : ∀ (L : List V5) {w : World} {b off : Nat}, (∀ i (hi : i < L.length), At5 w b (off + i * 5) L[i]) → w.rangeAt b off (L.flatMap vl)
  | [], _, _, _, _ => fun j v hv => by simp at hv
  | x :: L, w, b, off, h => fun j v hv => by
    rw [List.flatMap_cons] at hv
    by_cases hj : j < 5
    · rw [List.getElem?_append_left (by rw [vl_len]; exact hj)] at hv
      have := (h 0 (by simp)).range j v hv
      simpa using this
    · rw [List.getElem?_append_right (by rw [vl_len]; omega), vl_len] at hv
      have := vals_range L (w := w) (b := b) (off := off + 5) (fun i hi => by
        have := h (i + 1) (by simpa using hi)
        rwa [show off + (i + 1) * 5 = off + 5 + i * 5 by omega] at this) (j - 5) v hv
      rwa [show off + 5 + (j - 5) = off + j by omega] at this
theorem flats_len : ∀ L : List V5, (L.flatMap vl).length = L.length * 5
  | [] => rfl
  | x :: L => by rw [List.flatMap_cons, List.length_append, flats_len L, vl_len, List.length_cons]; omega

/-- Some things, laid from one on. -/
def updL (F : FV) (k : Nat) : List V5 → FV
  | [] => F
  | x :: L => updL (upd F k x) (k + 1) L
theorem setCells_append (b : Nat) : ∀ (l m : List Value) (o : Nat) (w : World), w.setCells b o (l ++ m) = (w.setCells b o l).setCells b (o + l.length) m
  | [], _, _, _ => rfl
  | v :: l, m, o, w => by
    rw [List.cons_append, World.setCells, World.setCells, setCells_append b l m, List.length_cons, show o + 1 + l.length = o + (l.length + 1) by omega]
theorem FR.many {b : Nat} : ∀ (L : List V5) {w : World} {F : FV} (k : Nat), k + L.length ≤ 18 → FR w b F → FR (w.setCells b (k * 5) (L.flatMap vl)) b (updL F k L)
  | [], _, _, _, _, h => h
  | x :: L, w, F, k, hk, h => by
    have h1 := FR.many L (k + 1) (by simp at hk; omega) (h.set (k := k) (by simp at hk; omega) x)
    rw [show (k + 1) * 5 = k * 5 + 5 by omega] at h1
    rw [List.flatMap_cons, setCells_append, vl_len, ← st5_eq]
    exact h1
theorem updL_ref (P : V5 → Prop) : ∀ (L : List V5) (F : FV) (k : Nat), (∀ i, P (F i)) → (∀ x ∈ L, P x) → ∀ i, P (updL F k L i)
  | [], _, _, h, _ => h
  | x :: L, F, k, h, hL => updL_ref P L (upd F k x) (k + 1) (fun i => by
      unfold upd; split
      · exact hL x (by simp)
      · exact h i) (fun y hy => hL y (by simp [hy]))
set_option maxRecDepth 10000 in
theorem copy5 (w : World) (b o dLen dCap : Nat) (a : Addr) (sLen sCap : Nat) (cs : List Value) (hn : cs.length = Nat.min sLen dLen * 5)
    (hsrc : ∀ j v, cs[j]? = some v → w.cell? (a.add j) = some v) (hc : ∀ j, j < cs.length → (w.cell? ⟨b, o + j, none⟩).isSome = true) (hf : ∀ j, j < cs.length → w.frozen? ⟨b, o + j, none⟩ = false) (h1 : ∀ v ∈ cs, v.oneCell' = true) :
    (Builtin.copy_ #[59, 59] 3 #[.slice (some ⟨b, o, none⟩) dLen dCap, .slice (some a) sLen sCap]).run Try.prog w = .ok (goInt (Nat.min sLen dLen)) (w.setCells b o cs) := by
  have hl := run_loadCells_list (P := Try.prog) w a cs hsrc
  have hst := run_storeCells_cells (P := Try.prog) b o cs 0 w (by simpa using hc) (by simpa using hf) h1
  obtain ⟨i, hq, hi⟩ : ∃ i : TypeInfo, Try.prog.info? 38 = some i ∧ i.size = 5 := ⟨_, rfl, by kernel_rfl⟩
  rw [hn] at hl
  simp only [Nat.add_zero] at hst
  simp [Builtin.copy_, run_underlying Try.underlying59, Builtin.lenOf, Builtin.firstCells, sizeOf, typeInfo, hq, hi, hl, hst]

theorem new_any {w : World} {a : Option Addr} {n cap : Nat} {L : List V5} (hL : L.length = n) (h5 : n ≤ 5) (hV : ValsAt w a L) (hnil : a = none → n = 0 → cap = 0) :
    Calls Try.prog 7 #[.slice a n cap] w fun e w' => e = .returned (.tuple #[.pointer (some ⟨w.heap.size, 0, none⟩), .int .i64 0]) ∧ FR w' w.heap.size (updL F0 1 L) ∧ Ch [] w w' := by
  have hz := z90a w
  obtain ⟨w1, hw1⟩ : ∃ W, W = w.alloc (.cells (fl F0).toArray 75) := ⟨_, rfl⟩
  have hc1 : Ch [] w w1 := by rw [hw1]; exact (Ch.refl [] w).alloc _
  have hF : FR w1 w.heap.size F0 := by rw [hw1]; exact FR.new w F0 75
  have HR := Lib.hid (show FR (w1.setCells w.heap.size 5 (L.flatMap vl)) w.heap.size (updL F0 1 L) ∧ Ch [] w (w1.setCells w.heap.size 5 (L.flatMap vl)) from ⟨hF.many L 1 (by omega), hc1.fresh (chCells w1 w.heap.size _ _) (by simp)⟩)
  have hcopy : (Builtin.copy_ #[59, 59] 3 #[.slice (some ⟨w.heap.size, 5, none⟩) 9 9, .slice a n cap]).run Try.prog w1 = .ok (goInt n) (w1.setCells w.heap.size 5 (L.flatMap vl)) := by
    rcases hV.ch hc1 (by simp) with rfl | ⟨b, off, rfl, hk⟩
    · simp at hL
      subst hL
      cases a with
      | none =>
        obtain rfl := hnil rfl rfl
        exact run_copy_nil (P := Try.prog) w1 59 59 3 38 ⟨w.heap.size, 5, none⟩ 9 9 Try.underlying59 (by kernel_rfl)
      | some ad => exact copy5 w1 w.heap.size 5 9 9 ad 0 cap [] rfl (fun j v hv => by simp at hv) (fun j hj => by simp at hj) (fun j hj => by simp at hj) (fun v hv => by simp at hv)
    · have hm : Nat.min n 9 = n := Nat.min_eq_left (by omega)
      have hl : (L.flatMap vl).length = Nat.min n 9 * 5 := by rw [flats_len, hL, hm]
      have := copy5 w1 w.heap.size 5 9 9 ⟨b, off, none⟩ n cap (L.flatMap vl) hl (fun j v hv => by rw [addr_add]; exact vals_range L hk j v hv)
        (fun j hj => by
          have := hF.there (5 + j) (by rw [flats_len] at hj; omega)
          rw [Nat.zero_add] at this
          exact this.1) (fun j _ => hF.fr _) (fun v hv => by obtain ⟨x, _, h⟩ := List.mem_flatMap.1 hv; exact vl_one x v h)
      rw [hm] at this
      exact this
  have d1 : decide ((n : Int) > 5) = false := decide_eq_false (by omega)
  have d2 : ¬ 5 < n := by omega
  have HW := Lib.hid hw1
  rw [hw1] at hcopy
  rw [hw1] at HR
  clear hL h5 hV hnil hc1 hF hw1
  go_enter Try.func7, Try.ntmps7
  go_wp2_with fail
  go_ret2
  exact ⟨rfl, HR.out⟩
end Go.Proofs.Ytlffcccicpdnfaa

/-
  VmBytes: plain; Read and Write of a run. (Written by gen/vm19b.py.)
-/
import Derived.Test.YtpbdmlipdfdblaaDoorMgL
import Derived.Test.YtpbdmlipdfdblaaDoorMgJ
namespace Go.Proofs.YtpbdmlipdfdblaaDoor
open Go.RowKit Go.BigFrame

attribute [local go_sem] Oper.semAt_some

theorem wrF_fw {F : FV} (h : FW F) (k : Nat) {l : List Nat} (hb : ∀ x ∈ l, x < 256) : ∀ i, FW (wrF F k l i)
  | 0 => h
  | i + 1 => (wrF_fw h k hb i).upd _ (leN_64 (fun x hx => hb x (List.mem_of_mem_drop (List.mem_of_mem_take hx))) (by simp; omega))
theorem wrT_fw {F : FV} (h : FW F) (a : Int) {l : List Nat} (hb : ∀ x ∈ l, x < 256) : FW (wrT F a l) := by
  unfold wrT; split
  · exact wrF_fw h _ hb _
  · exact h
theorem rdE_len (F : FV) (a n : Int) : (rdE F a n).1.length ≤ 64 := by
  unfold rdE
  split
  · rename_i h
    split
    · simp
    · rw [rdB_len]; unfold hol at h; omega
  · simp

def ldI (k : Nat) : I5 := ⟨64, 0, 0, k, 0⟩
def kL (k : Nat) : List I5 := [ldI k, exi]
theorem resL (k : Nat) (hk : k < 8) : (res (kL k) false).2 = 0 := by
  have key : ∀ k, k < 8 → (∀ j, j < 2 → ∀ b, b < 2 → (if j = 0 then chk (ia (kL k) b) else wrg 2 false (ia (kL k) b) b) = 0) ∧ 1 ∈ nxL 2 (ia (kL k) 0) 0 := by decide +kernel
  obtain ⟨h1, h2⟩ := key k hk
  have h0 : Rch (kL k) 0 := .zero (by show 0 < 2; decide)
  have h3 : Rch (kL k) 1 := .step h0 (by decide) h2
  rw [res_ok (by show ¬ (2 < 1 ∨ 64 < 2); decide) (fun j hj b hb => by
    have hb2 : b < 2 := hb
    obtain rfl | rfl | rfl : j = 0 ∨ j = 1 ∨ j = 2 := by omega
    · rw [lk0]; exact h1 0 (by decide) b hb2
    · rw [lk1]; exact h1 1 (by decide) b hb2
    · show (if rb _ b = true then (0 : Int) else 19) = 0
      have hb : b = 0 ∨ b = 1 := by omega
      rcases hb with rfl | rfl
      · rw [if_pos (rb_iff.2 h0)]
      · rw [if_pos (rb_iff.2 h3)])]
theorem fitL (k : Nat) (hk : k < 8) : ∀ x ∈ kL k, Fit x := by
  intro x hx
  simp only [kL, List.mem_cons, List.not_mem_nil, or_false] at hx
  rcases hx with rfl | rfl
  · exact fit_small (by unfold ldI; simp; omega)
  · exact fit_small (by decide)
theorem rpL (k : Nat) (hk : k < 8) : RP (kL k) := RP.of (fitL k hk) (resL k hk)
/-- What such a run comes to. -/
theorem runL (k u : Nat) (hk : k < 8) (hu : 2 ≤ u) (G : FV) : (goS (kL k) 2 { newS u [] with F := G }).t.k = 1 ∧ (goS (kL k) 2 { newS u [] with F := G }).e = 0 ∧ (goS (kL k) 2 { newS u [] with F := G }).v = (G (10 + k)).n := by
  have hc : ∀ k, k < 8 → chk (ldI k) = 0 := by decide +kernel
  have hf : fdo G (ldI k) = (upd G 0 (G (10 + k)), 0) := by
    unfold fdo
    rw [if_neg (by rw [hc k hk]; simp), if_neg (by show ¬ cls 64 = 1; decide), if_pos (show (ldI k).op = 64 from rfl), if_pos (show 0 ≤ (ldI k).o ∧ (ldI k).o ≤ 7 from by show 0 ≤ (k : Int) ∧ (k : Int) ≤ 7; omega)]
    rfl
  have e1 : oneS (kL k) { newS u [] with F := G } = { newS u [] with F := upd G 0 (G (10 + k)), u := u - 1, p := 1 } := by
    unfold oneS
    rw [if_neg (by show ¬ (0 : Int) ≠ 0; simp), if_neg (by show ¬ u = 0; omega)]
    show insS (ldI k) _ = _
    unfold insS
    rw [if_neg (by show ¬ (64 : Int) = 73; decide), if_neg (by show ¬ (64 : Int) = 72; decide), if_neg (by show ¬ (64 : Int) = 66; decide), if_neg (by show ¬ (64 : Int) = 67; decide), if_neg (by show ¬ cls 64 = 2; decide)]
    unfold sumS
    rw [if_neg (by show ¬ (fdo G (ldI k)).2 ≠ 0; rw [hf]; simp)]
    show (⟨(fdo G (ldI k)).1, _, _, _, _, _⟩ : RNS) = _
    rw [hf]
    rfl
  have e2 : goS (kL k) 2 { newS u [] with F := G } = oneS (kL k) { newS u [] with F := upd G 0 (G (10 + k)), u := u - 1, p := 1 } := by
    rw [← e1]; rfl
  have e3 : oneS (kL k) { newS u [] with F := upd G 0 (G (10 + k)), u := u - 1, p := 1 } = insS exi { newS u [] with F := upd G 0 (G (10 + k)), u := u - 1 - 1, p := 1 } := by
    unfold oneS
    rw [if_neg (by show ¬ (0 : Int) ≠ 0; simp), if_neg (by show ¬ u - 1 = 0; omega)]
    rfl
  rw [e2, e3]
  unfold insS
  rw [if_pos (show exi.op = 73 from rfl)]
  refine ⟨rfl, rfl, ?_⟩
  show (upd G 0 (G (10 + k)) 0).n = _
  rw [upd_same]

section
variable {w : World} {b c : Nat} {L : List I5} {s : RNS}
theorem vwrite_any (h : RB w b c L s) {a : Int} (ha : fit a) {n cap : Nat} (hn : n ≤ 1000) (hnc : n ≤ cap) {v : Option Addr} {l : List Nat} (hl : l.length = n) (hb : ∀ x ∈ l, x < 256) (hA : BA w v l) (hv : ∀ y, v = some y → l ≠ [] → y.block ≠ b) :
    Calls Tryd.prog 24 #[.pointer (some ⟨b, 0, none⟩), .int .i64 a, .slice v n cap] w fun e w' => e = .returned (.int .i64 (wrE a n)) ∧ RB w' b c L { s with F := wrT s.F a l } ∧ Ch [b] w w' := by
  have HO := Lib.hid (fun w => own_any b w)
  have HW := Lib.hid (fwrite_any (cap := cap) h.f ha hn hnc hl hb hA hv)
  have HB := Lib.hid h
  generalize wrE a n = E at *
  generalize wrT s.F a l = G at *
  clear h ha hn hnc hl hb hA hv
  go_enter Tryd.func24, Tryd.ntmps24
  go_wp2_with fail
  with_reducible refine (HO.out _).mono ?_
  rintro e w1 ⟨rfl, rfl⟩
  go_wp2_with fail
  with_reducible refine HW.out.mono ?_
  rintro e w2 ⟨rfl, hF, hc⟩
  have HK := Lib.hid (And.intro (HB.out.frame hc hF) hc.ch)
  clear hF hc HW HB
  go_wp2_with fail
  go_ret
  exact ⟨rfl, HK.out⟩
theorem vread_any (h : RB w b c L s) {a n : Int} (ha : fit a) :
    Calls Tryd.prog 26 #[.pointer (some ⟨b, 0, none⟩), .int .i64 a, .int .i64 n] w fun e w' => ∃ va cp, e = .returned (.tuple #[.slice va (rdE s.F a n).1.length cp, .int .i64 (rdE s.F a n).2]) ∧ BA w' va (rdE s.F a n).1 ∧ Ch [] w w' := by
  have HO := Lib.hid (fun w => own_any b w)
  have HR := Lib.hid (fread_any h.f ha (n := n))
  generalize (rdE s.F a n).2 = E at *
  generalize (rdE s.F a n).1 = B at *
  clear h ha
  go_enter Tryd.func26, Tryd.ntmps26
  go_wp2_with fail
  with_reducible refine (HO.out _).mono ?_
  rintro e w1 ⟨rfl, rfl⟩
  go_wp2_with fail
  with_reducible refine HR.out.mono ?_
  rintro e w2 ⟨v, rfl, hv, hc⟩
  obtain ⟨va, cp, rfl, hba, -⟩ := hv.form
  have HK := Lib.hid (And.intro hba hc)
  clear hv hba hc HR
  go_wp2_with fail
  go_ret2
  exact ⟨_, _, rfl, HK.out⟩
end
/-- What stands behind the frame of the document's zero run. -/
def zrest : List Value := [.slice none 0 0, .int .i64 0, .int .i64 0, .bool false, .bool false] ++ (tl (T0 0) ++ [.int .i64 0, .int .u64 0])
theorem zR (w : World) : Sem.run Tryd.prog (zeroValue 67) w = .ok (.agg (fl F0 ++ zrest).toArray) w := by kernel_rfl
theorem frR (w : World) (cs : List Value) (t : TypeId) : FR (w.alloc (.cells (fl F0 ++ cs).toArray t)) w.heap.size F0 :=
  FR.of (fun j v hv => by
    rw [Nat.zero_add, World.cell?_alloc_at _ _ _ _ rfl]
    show (fl F0 ++ cs).toArray[j]? = some v
    rw [List.getElem?_toArray, List.getElem?_append_left (List.getElem?_eq_some_iff.1 hv).1]; exact hv) fun _ => World.frozen?_alloc_new w _ _ _
end Go.Proofs.YtpbdmlipdfdblaaDoor

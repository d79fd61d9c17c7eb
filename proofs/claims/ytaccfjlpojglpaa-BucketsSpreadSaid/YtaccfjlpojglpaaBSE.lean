/-
  slices.Insert at a chain's head, of one entry of values of string.
-/
import Derived.Test.YtaccfjlpojglpaaBuC
import Derived.Test.YtaccfjlpojglpaaBSA
namespace Go.Proofs.Ytaccfjlpojglpaa.bS
open Go.RowKit Go.Shelf

attribute [local go_sem] Oper.semAt_some

theorem uS : Try.prog.underlying 93 = some (.slice 92) := Try.underlying93
theorem szE : (Try.prog.info? 92).map (·.size) = some 2 := by kernel_rfl

set_option maxRecDepth 100000 in
set_option maxHeartbeats 2000000 in
/-- Of no entries. -/
theorem insert_none {w : World} {S : Nat} {a : Option Addr} {cap : Nat} (h : CR w S (.slice a 0 cap) []) (hS : S ≤ w.heap.size) (e : E) (X : Nat) (hX : w.heap[X]? = some (.cells #[.int .u64 (e.k : Int), vv e.v] 92 (0, 0))) :
    Calls Try.prog 43 #[.slice a 0 cap, .int .i64 0, .slice (some ⟨X, 0, none⟩) 1 1] w fun r w' => ∃ v', r = .returned v' ∧ CR w' S v' [e] ∧ w.grownBy w' (Value.slice a 0 cap).ownBlock ∧ (v'.ownBlock = (Value.slice a 0 cap).ownBlock ∨ v'.ownBlock = some w.heap.size) := by
  obtain ⟨i0, hi, hz0, hz1, hz2⟩ := info_parts infoE
  have hnews : ∀ j u, [Value.int .u64 (e.k : Int), vv e.v][j]? = some u → w.cell? ((⟨X, 0, none⟩ : Addr).add j) = some u := fun j u hu => by
    rw [addr_add, Nat.zero_add, (cell_plain hX j).1]
    simpa using hu
  have HR := Lib.hid h
  have hu := uS
  have hform : (a = none ∧ cap = 0) ∨ ∃ g, a = some ⟨g, 0, none⟩ := by
    rcases h.2 with ⟨e1, _⟩ | ⟨g, cap', cur, e1, _⟩
    · cases e1; exact .inl ⟨rfl, rfl⟩
    · cases e1; exact .inr ⟨g, rfl⟩
  clear h hX
  rcases hform with ⟨rfl, rfl⟩ | ⟨g, rfl⟩
  · go_enter Try.func43, Try.ntmps43
    go_wp2_with (first | (at_builtin; refine wpList_append_own_at _ rfl _ _ 93 rfl S 92 i0 (.agg #[.int .u64 0, vv v0]) 2 24 uS hi hz0 hz1 hz2 rfl (by decide) _ 0 [] rfl HR.out ⟨X, 0, none⟩ 1 1 [.int .u64 (e.k : Int), vv e.v] rfl rfl hnews (by simp [Value.oneCell']) (by unfold maxLen; omega) (by omega) hS ?_; intro v' w2 hrow hg hnil hat) | fail)
    go_ret
    exact ⟨_, rfl, hrow, hg, hat⟩
  · by_cases hc : cap = 0
    · subst hc
      go_enter Try.func43, Try.ntmps43
      go_wp2_with (first | (at_builtin; refine wpList_append_own_at _ rfl _ _ 93 rfl S 92 i0 (.agg #[.int .u64 0, vv v0]) 2 24 uS hi hz0 hz1 hz2 rfl (by decide) _ 0 [] rfl HR.out ⟨X, 0, none⟩ 1 1 [.int .u64 (e.k : Int), vv e.v] rfl rfl hnews (by simp [Value.oneCell']) (by unfold maxLen; omega) (by omega) hS ?_; intro v' w2 hrow hg hnil hat) | fail)
      go_ret
      exact ⟨_, rfl, hrow, hg, hat⟩
    · have hc2 : 0 < cap := by omega
      go_enter Try.func43, Try.ntmps43
      go_wp2_with (first | (at_builtin; refine wpList_append_own_at _ rfl _ _ 93 rfl S 92 i0 (.agg #[.int .u64 0, vv v0]) 2 24 uS hi hz0 hz1 hz2 rfl (by decide) _ 0 [] rfl HR.out ⟨X, 0, none⟩ 1 1 [.int .u64 (e.k : Int), vv e.v] rfl rfl hnews (by simp [Value.oneCell']) (by unfold maxLen; omega) (by omega) hS ?_; intro v' w2 hrow hg hnil hat) | fail)
      go_ret
      exact ⟨_, rfl, hrow, hg, hat⟩

set_option maxRecDepth 100000 in
set_option maxHeartbeats 4000000 in
/-- Of some, where there is room. -/
theorem insert_shift {w : World} {S g n cap : Nat} {C : List E} (h : CR w S (.slice (some ⟨g, 0, none⟩) n cap) C) (hn : n = C.length) (h0 : 0 < n) (hl : n ≤ 64) (hroom : n + 1 ≤ cap) (e : E) (X : Nat) (hX : w.heap[X]? = some (.cells #[.int .u64 (e.k : Int), vv e.v] 92 (0, 0))) (hne : X ≠ g) :
    Calls Try.prog 43 #[.slice (some ⟨g, 0, none⟩) n cap, .int .i64 0, .slice (some ⟨X, 0, none⟩) 1 1] w fun r w' => r = .returned (.slice (some ⟨g, 0, none⟩) (n + 1) cap) ∧ CR w' S (.slice (some ⟨g, 0, none⟩) (n + 1) cap) (e :: C) ∧ w.grownBy w' (some g) := by
  obtain ⟨cur, hS, hg, hcap, hsz, htk⟩ : ∃ cur, S ≤ g ∧ w.heap[g]? = some (.cells cur 92 (0, 0)) ∧ cap ≤ maxLen ∧ cur.size = cap * 2 ∧ cur.toList.take (n * 2) = cells C := by
    rcases h.2 with ⟨e1, _⟩ | ⟨g', cap', cur, e1, h1, h2, h3, h4, h5, h6⟩
    · cases e1
    · cases e1
      exact ⟨cur, h1, h2, h4, h5, by rw [hn]; exact h6⟩
  have hu := uS
  have hlen : (cells C).length = n * 2 := by rw [cells_len, hn]
  have hfz : w.frozen? ⟨X, 0, none⟩ = false := (cell_plain hX 0).2
  have hfe : w.frozen? ⟨X, 2, none⟩ = false := (cell_plain hX 2).2
  have hsa : w.shape? X = some (92, 2) := by simp [World.shape?, hX]
  have hsb : w.shape? g = some (92, cap * 2) := by simp [World.shape?, hg, hsz]
  have hov : ∀ lb cb, (callFunc 54 #[.slice (some ⟨X, 0, none⟩) 1 1, .slice (some ⟨g, 2, none⟩) lb cb]).run Try.prog w = .ok (.value (.bool false)) w := fun lb cb => by
    rw [run_callFunc_extern Try.func54 (by kernel_rfl) (by kernel_rfl) (by kernel_rfl) (e := Extern.SlicesOverlaps.overlaps #[93, 93] #[4]) (by kernel_rfl),
      Lib.run_overlaps_apart w 93 4 92 uS 2 (fun w => by kernel_rfl) ⟨X, 0, none⟩ ⟨g, 2, none⟩ 1 1 lb cb hne 92 92 2 (cap * 2) hsa hsb (by omega) hfz hfe]
    rfl
  obtain ⟨W1, hW1⟩ : ∃ W, W = w.drew.setCells g 2 (cells C) := ⟨_, rfl⟩
  have hgW : W1.heap[g]? = some (.cells (spl cur 2 (cells C)) 92 (0, 0)) := by rw [hW1]; exact heap_setCells (cells C) w.drew g 2 cur _ hg
  have hXW : W1.heap[X]? = some (.cells #[.int .u64 (e.k : Int), vv e.v] 92 (0, 0)) := by
    rw [hW1, (ch_setCells (S := [g]) g (.inl (by simp)) (cells C) 2 (Ch.refl _ w.drew)).block X (Array.getElem?_eq_some_iff.1 hX).1 (by simpa using hne)]
    exact hX
  have hcp1 : ∀ ty dc sc, (Builtin.copy_ #[93, 93] ty #[.slice (some ⟨g, 2, none⟩) n dc, .slice (some ⟨g, 0, none⟩) (n + 1) sc]).run Try.prog w.drew = .ok (goInt n) W1 := fun ty dc sc => by
    have := run_copy_blk (P := Try.prog) w.drew 93 93 ty 92 2 g 2 n dc ⟨g, 0, none⟩ (n + 1) sc (cells C) uS szE hg (by omega) (by rw [hlen, show Nat.min (n + 1) n = n from Nat.min_eq_right (by omega)])
      (fun j v hj => by
        rw [addr_add, Nat.zero_add, (cell_plain (w := w.drew) hg j).1]
        have hjl := (List.getElem?_eq_some_iff.1 hj).1
        rw [← htk, List.getElem?_take_of_lt (by omega)] at hj
        simpa using hj) (cells_one C)
    rw [this, show Nat.min (n + 1) n = n from Nat.min_eq_right (by omega), ← hW1]
  have hcp2 : ∀ ty dc, (Builtin.copy_ #[93, 93] ty #[.slice (some ⟨g, 0, none⟩) (n + 1) dc, .slice (some ⟨X, 0, none⟩) 1 1]).run Try.prog W1 = .ok (goInt 1) (W1.setCells g 0 [.int .u64 (e.k : Int), vv e.v]) := fun ty dc => by
    have := run_copy_blk (P := Try.prog) W1 93 93 ty 92 2 g 0 (n + 1) dc ⟨X, 0, none⟩ 1 1 [.int .u64 (e.k : Int), vv e.v] uS szE hgW (by rw [spl_size]; simp; omega) (by rw [show Nat.min 1 (n + 1) = 1 from Nat.min_eq_left (by omega)]; rfl)
      (fun j v hj => by
        rw [addr_add, Nat.zero_add, (cell_plain hXW j).1]
        simpa using hj) (by simp [Value.oneCell'])
    rw [this, show Nat.min 1 (n + 1) = 1 from Nat.min_eq_left (by omega)]
    rfl
  have HE := Lib.hid (show CR (W1.setCells g 0 [.int .u64 (e.k : Int), vv e.v]) S (.slice (some ⟨g, 0, none⟩) (n + 1) cap) (e :: C) ∧ w.grownBy (W1.setCells g 0 [.int .u64 (e.k : Int), vv e.v]) (some g) from by
    have h1 : cur.toList.length = cap * 2 := by simpa using hsz
    have h2 := heap_setCells [.int .u64 (e.k : Int), vv e.v] W1 g 0 _ _ hgW
    have hch : Ch [g] w (W1.setCells g 0 [.int .u64 (e.k : Int), vv e.v]) := by
      rw [hW1]
      exact ch_setCells g (.inl (by simp)) _ 0 (ch_setCells g (.inl (by simp)) _ 2 (Ch.refl _ w).drew)
    refine ⟨⟨by rw [cells_len], .inr ⟨g, cap, _, by rw [hn]; rfl, hS, h2, by simp; omega, hcap, by rw [spl_size, spl_size]; exact hsz, ?_⟩⟩, ⟨hch.os, hch.tape, hch.output, hch.size, fun k hk hkg => hch.block k hk (by simpa using hkg)⟩⟩
    rw [spl_list _ _ _ (by rw [spl_size]; simp; omega), spl_list _ _ _ (by omega), cells_cons]
    exact shift_list _ _ _ rfl (by omega) _ (by rw [hlen, hn, List.length_cons]; omega))
  have hw1 : IntKind.i64.wrap 1 = 1 := by decide
  have hn1 : (1 : Int) ≤ (n : Int) + 1 := by omega
  have hn2 : (0 : Int) ≤ (n : Int) + 1 := by omega
  have hc1 : ¬ (cap = 1) := by omega
  have hc0 : ¬ (cap = 0) := by omega
  have hn0 : ((0 : Int) == (n : Int)) = false := by simp; omega
  have hnc : decide ((cap : Int) < (n : Int) + 1) = false := by simp; omega
  clear hgW hXW hsa hsb hfz hfe htk hsz hg hX hn hlen h hW1 hS
  go_enter Try.func43, Try.ntmps43
  go_wp2_with (simp only [hov])
  go_region_law (refine step_copy_runI rfl _ _ 93 93 rfl _ _ (by simp [Act.eval, Act.put]) (by simp [Act.eval, Act.put]) (hcp1 _ _ _) ?_)
  go_wp2_with (at_builtin; refine wpList_copy_runI _ rfl _ _ 93 93 rfl _ _ rfl rfl (hcp2 _ _) ?_)
  go_ret
  exact ⟨rfl, HE.out⟩

theorem zc_size (n : Nat) : (Builtin.zeroCells (Value.agg #[.int .u64 0, vv v0]).cells n).size = n * 2 := by simp [Builtin.zeroCells, Value.cells]
set_option maxRecDepth 100000 in
set_option maxHeartbeats 4000000 in
/-- Of some, where there is no room. -/
theorem insert_grow {w : World} {S g n cap : Nat} {C : List E} (h : CR w S (.slice (some ⟨g, 0, none⟩) n cap) C) (hn : n = C.length) (h0 : 0 < n) (hl : n ≤ 64) (hroom : cap < n + 1) (hSw : S ≤ w.heap.size) (e : E) (X : Nat) (hX : w.heap[X]? = some (.cells #[.int .u64 (e.k : Int), vv e.v] 92 (0, 0))) :
    Calls Try.prog 43 #[.slice (some ⟨g, 0, none⟩) n cap, .int .i64 0, .slice (some ⟨X, 0, none⟩) 1 1] w fun r w' => ∃ G, r = .returned (.slice (some ⟨w.heap.size, 0, none⟩) (n + 1) G) ∧ CR w' S (.slice (some ⟨w.heap.size, 0, none⟩) (n + 1) G) (e :: C) ∧ w.grownBy w' none := by
  obtain ⟨cur, hg, hcap, hnc, hsz, htk⟩ : ∃ cur, w.heap[g]? = some (.cells cur 92 (0, 0)) ∧ cap ≤ maxLen ∧ n ≤ cap ∧ cur.size = cap * 2 ∧ cur.toList.take (n * 2) = cells C := by
    rcases h.2 with ⟨e1, _⟩ | ⟨g', cap', cur, e1, h1, h2, h3, h4, h5, h6⟩
    · cases e1
    · cases e1
      exact ⟨cur, h2, h4, by rw [hn]; exact h3, h5, by rw [hn]; exact h6⟩
  obtain ⟨i0, hi, hz0, hz1, hz2⟩ := info_parts infoE
  have hu := uS
  have hlen : (cells C).length = n * 2 := by rw [cells_len, hn]
  obtain ⟨G, hG⟩ : ∃ G, G = grownCap w (n + 1) cap 92 := ⟨_, rfl⟩
  have hG1 : n + 1 ≤ G := by rw [hG]; exact grownCap_ge w _ _ _
  have hG2 : G ≤ maxLen := by rw [hG]; exact grownCap_le_maxLen w _ _ _ (by unfold maxLen; omega)
  obtain ⟨ROW, hROW⟩ : ∃ R : Array Value, R = Builtin.zeroCells (Value.agg #[.int .u64 0, vv v0]).cells (n + 1) ++ Builtin.zeroCells (Value.agg #[.int .u64 0, vv v0]).cells (G - (n + 1)) := ⟨_, rfl⟩
  have hRs : ROW.size = G * 2 := by rw [hROW, Array.size_append, zc_size, zc_size]; omega
  have hrz : ∀ ty, (Builtin.append_ #[93, 3] ty #[.slice (some ⟨g, 0, none⟩) 0 cap, .int .i64 ((n : Int) + 1)]).run Try.prog w = .ok (.slice (some ⟨w.heap.size, 0, none⟩) (n + 1) G) (w.drew.alloc (.cells ROW 92)) := fun ty => by
    have hold : (Builtin.firstCells i0.size 0 (.slice (some ⟨g, 0, none⟩) 0 cap)).run Try.prog w.drew = .ok ([] : List Value).toArray w.drew := run_firstCells_some w.drew i0.size 0 ⟨g, 0, none⟩ 0 cap [] (by simp) (fun j v hj => by simp at hj)
    have := Lib.run_append_grow_zeros w 93 3 ty 92 i0 _ .i64 .i64 uS Try.underlying3 hi hz0 (some ⟨g, 0, none⟩) 0 cap [] hold (n + 1) (by omega) (by omega) (by omega) (by omega) (by rw [hz2]; omega) (by rw [hz2]; exact growslice_fits (by omega) (by omega))
    rw [Nat.zero_add, ← hG] at this
    rw [hROW]
    simpa using this
  obtain ⟨N, hN⟩ : ∃ N, N = w.heap.size := ⟨_, rfl⟩
  obtain ⟨W1, hW1⟩ : ∃ W, W = w.drew.alloc (.cells ROW 92) := ⟨_, rfl⟩
  have hN1 : W1.heap[N]? = some (.cells ROW 92 (0, 0)) := by rw [hW1, hN]; exact World.alloc_heap_new w.drew _
  have hold1 : ∀ b o, w.heap[b]? = some o → W1.heap[b]? = some o := fun b o hb => by
    rw [hW1]; exact (Below.heap_alloc w.drew _ b (Array.getElem?_eq_some_iff.1 hb).1).trans hb
  have hcpA : ∀ (W : World), W.heap = W1.heap → ∀ ty, (Builtin.copy_ #[93, 93] ty #[.slice (some ⟨N, 0, none⟩) (n + 1) G, .slice (some ⟨X, 0, none⟩) 1 1]).run Try.prog W = .ok (goInt 1) (W.setCells N 0 [.int .u64 (e.k : Int), vv e.v]) := fun W hW ty => by
    have := run_copy_blk (P := Try.prog) W 93 93 ty 92 2 N 0 (n + 1) G ⟨X, 0, none⟩ 1 1 [.int .u64 (e.k : Int), vv e.v] uS szE (by rw [hW]; exact hN1) (by rw [hRs]; simp; omega) (by rw [show Nat.min 1 (n + 1) = 1 from Nat.min_eq_left (by omega)]; rfl)
      (fun j v hj => by
        rw [addr_add, Nat.zero_add, (cell_plain (w := W) (by rw [hW]; exact hold1 _ _ hX) j).1]
        simpa using hj) (by simp [Value.oneCell'])
    rw [this, show Nat.min 1 (n + 1) = 1 from Nat.min_eq_left (by omega)]
    rfl
  have hgN : g ≠ N := by have := (Array.getElem?_eq_some_iff.1 hg).1; omega
  have hcpB : ∀ (W : World), W.heap = (W1.setCells N 0 [.int .u64 (e.k : Int), vv e.v]).heap → ∀ ty dc sc, (Builtin.copy_ #[93, 93] ty #[.slice (some ⟨N, 2, none⟩) n dc, .slice (some ⟨g, 0, none⟩) n sc]).run Try.prog W = .ok (goInt n) (W.setCells N 2 (cells C)) := fun W hW ty dc sc => by
    have := run_copy_blk (P := Try.prog) W 93 93 ty 92 2 N 2 n dc ⟨g, 0, none⟩ n sc (cells C) uS szE (by rw [hW]; exact heap_setCells _ W1 N 0 ROW _ hN1) (by rw [spl_size, hRs]; omega) (by rw [hlen, show Nat.min n n = n from Nat.min_self n])
      (fun j v hj => by
        have hgW : W.heap[g]? = some (.cells cur 92 (0, 0)) := by
          rw [hW, (ch_setCells (S := [N]) N (.inl (by simp)) _ 0 (Ch.refl _ W1)).block g (Array.getElem?_eq_some_iff.1 (hold1 _ _ hg)).1 (by simpa using hgN)]
          exact hold1 _ _ hg
        rw [addr_add, Nat.zero_add, (cell_plain hgW j).1]
        have hjl := (List.getElem?_eq_some_iff.1 hj).1
        rw [← htk, List.getElem?_take_of_lt (by omega)] at hj
        simpa using hj) (cells_one C)
    rw [this, show Nat.min n n = n from Nat.min_self n]
  have HE := Lib.hid (show CR ((((w.alloc (.cells ROW 92)).drew.setCells N 0 [.int .u64 (e.k : Int), vv e.v]).drew).setCells N 2 (cells C)) S (.slice (some ⟨N, 0, none⟩) (n + 1) G) (e :: C) ∧ w.grownBy ((((w.alloc (.cells ROW 92)).drew.setCells N 0 [.int .u64 (e.k : Int), vv e.v]).drew).setCells N 2 (cells C)) none from by
    have hl1 : ROW.toList.length = G * 2 := by simpa using hRs
    rw [hW1] at hN1
    have hch : Ch [] w ((((w.alloc (.cells ROW 92)).drew.setCells N 0 [.int .u64 (e.k : Int), vv e.v]).drew).setCells N 2 (cells C)) :=
      ch_setCells N (.inr (by omega)) _ 2 (ch_setCells N (.inr (by omega)) _ 0 (((Ch.refl _ w).alloc _).drew)).drew
    refine ⟨⟨by rw [cells_len], .inr ⟨N, G, _, by rw [hn]; rfl, by omega, heap_setCells (cells C) _ N 2 _ _ (heap_setCells _ ((w.alloc (.cells ROW 92)).drew) N 0 ROW _ hN1), by rw [List.length_cons]; omega, hG2, by rw [spl_size, spl_size]; exact hRs, ?_⟩⟩,
      ⟨hch.os, hch.tape, hch.output, hch.size, fun k hk _ => hch.block k hk (by simp)⟩⟩
    rw [spl_list _ _ _ (by rw [spl_size]; omega), spl_list _ _ _ (by simp; omega), cells_cons]
    exact fresh_list _ _ _ rfl (by omega) _ (by rw [hlen, hn, List.length_cons]; omega))
  have hw1 : IntKind.i64.wrap 1 = 1 := by decide
  have hn1 : (1 : Int) ≤ (n : Int) + 1 := by omega
  have hn2 : (0 : Int) ≤ (n : Int) + 1 := by omega
  have hn3 : (0 : Int) ≤ (n : Int) := by omega
  have hGa : ¬ (G = 1) := by omega
  have hGb : ¬ (G = 0) := by omega
  have hc0 : ¬ (cap = 0) := by omega
  have hn0 : ((0 : Int) == (n : Int)) = false := by simp; omega
  have hnc2 : decide ((cap : Int) < (n : Int) + 1) = true := by simp; omega
  have hnc3 : (cap : Int) < (n : Int) + 1 := by omega
  have hC1 := hcpA ((w.alloc (.cells ROW 92)).drew) (by rw [hW1]; rfl)
  have hC2 := hcpB (((w.alloc (.cells ROW 92)).drew.setCells N 0 [.int .u64 (e.k : Int), vv e.v]).drew) (by rw [hW1]; rfl)
  clear hcpA hcpB
  rw [← hN] at hrz ⊢
  clear hW1 hN1 hold1 hG1 hG2 hRs hROW hG hsz htk hg hn hlen hX h hgN hz0 hz1 hz2 hi hN
  go_enter Try.func43, Try.ntmps43
  go_wp2_with (first
    | (at_builtin; refine Lib.wpList_append_run _ rfl _ _ _ _ rfl _ _ rfl rfl _ _ (hrz _) ?_)
    | (at_builtin; refine wpList_copy_runI _ rfl _ _ 93 93 rfl _ _ rfl rfl (hC1 _) ?_)
    | fail)
  go_region_law (refine step_copy_runI rfl _ _ 93 93 rfl _ _ (by simp [Act.eval, Act.put]) (by simp [Act.eval, Act.put]) (hC2 _ _ _) ?_)
  go_wp2
  go_ret
  exact ⟨G, rfl, HE.out⟩

/-- One entry ahead of a chain. -/
theorem insert_any {w : World} {S : Nat} {v : Value} {C : List E} (h : CR w S v C) (hS : S ≤ w.heap.size) (hl : C.length ≤ 64) (e : E) (X : Nat) (hX : w.heap[X]? = some (.cells #[.int .u64 (e.k : Int), vv e.v] 92 (0, 0))) (hne : v.ownBlock ≠ some X) :
    Calls Try.prog 43 #[v, .int .i64 0, .slice (some ⟨X, 0, none⟩) 1 1] w fun r w' => ∃ v', r = .returned v' ∧ CR w' S v' (e :: C) ∧ w.grownBy w' v.ownBlock ∧ (v'.ownBlock = v.ownBlock ∨ v'.ownBlock = some w.heap.size) := by
  obtain ⟨a, cap, rfl⟩ := own_form h
  by_cases h0 : C = []
  · subst h0
    exact insert_none h hS e X hX
  · have hpos : 0 < C.length := List.length_pos_iff.2 h0
    obtain ⟨g, rfl⟩ : ∃ g, a = some ⟨g, 0, none⟩ := by
      rcases h.2 with ⟨_, h1⟩ | ⟨g, cap', cur, e1, _⟩
      · omega
      · cases e1; exact ⟨g, rfl⟩
    by_cases hc : C.length + 1 ≤ cap
    · refine (insert_shift h rfl hpos hl hc e X hX (fun e1 => hne (by rw [e1]; rfl))).mono ?_
      rintro r w' ⟨rfl, h1, h2⟩
      exact ⟨_, rfl, h1, h2, .inl rfl⟩
    · refine (insert_grow h rfl hpos hl (by omega) hS e X hX).mono ?_
      rintro r w' ⟨G, rfl, h1, h2⟩
      exact ⟨_, rfl, h1, ⟨h2.os, h2.tape, h2.output, h2.size, fun k hk _ => h2.block k hk (by simp)⟩, .inr rfl⟩
end Go.Proofs.Ytaccfjlpojglpaa.bS

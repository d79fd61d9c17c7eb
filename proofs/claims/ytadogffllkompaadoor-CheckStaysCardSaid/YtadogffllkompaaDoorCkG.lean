/-
  Reached, whole; Code (instructions as the program's); Calls.
-/
import Derived.Test.YtadogffllkompaaDoorCkF
namespace Go.Proofs.YtadogffllkompaaDoor
open Go.RowKit Go.Shelf

attribute [local go_sem] Oper.semAt_some

theorem rs_new {L : List I5} (w : World) {O : Nat} (hO : O = if 0 < L.length then Mk.withN 0 [0] else 0) {W : World} (hr : BM W w.heap.size 0) (ho : BM W (w.heap.size + 1) O) (hb : Below w.heap.size w W) : RS w L w.heap.size (w.heap.size + 1) 0 O [] W :=
  ⟨by rw [hO]; exact WL.start L, hr, ho, hb, trivial, Nat.le_refl _, by omega⟩

set_option maxRecDepth 100000 in
set_option maxHeartbeats 4000000 in
theorem reached_in (n : Nat) {L : List I5} {a : Option Addr} {len cap : Nat} (hL : L.length = len) (hlen : len ≤ 1000) (hfit : ∀ x ∈ L, Fit x) (w : World) (hI : InsAt w a L) (hT : Mk.Tab w) :
    CallsIn Fence.wide (n + 8) Tryd.prog 15 #[.slice a len cap] w fun e W' => ∃ M, RM L M ∧ e = .returned (.int .u64 ((M : Nat) : Int)) ∧ Below w.heap.size w W' := by
  have HLo := Lib.hid (fun (O0 : Nat) (w1 : World) (h : RS w L w.heap.size (w.heap.size + 1) 0 O0 [] w1) (u8 u9 u10 u11 u12 : Value) => reached_loop n (cap := cap) hL hlen hfit w hI hT (by omega) h (u8 := u8) (u9 := u9) (u10 := u10) (u11 := u11) (u12 := u12))
  have hw : ∀ f, Fence.wide.fn f := fun _ => trivial
  have hd : Fence.wide.depth = none := rfl
  have hr0 : BM ((w.alloc (.cells #[.int .u64 0] 37)).alloc (.cells #[.int .u64 0] 37)) w.heap.size 0 := (Boxed.new w 37 (.int .u64 0)).alloc _
  have ho0 : BM ((w.alloc (.cells #[.int .u64 0] 37)).alloc (.cells #[.int .u64 0] 37)) (w.heap.size + 1) 0 := by
    have := Boxed.new (w.alloc (.cells #[.int .u64 0] 37)) 37 (.int .u64 0)
    rwa [World.size_alloc] at this
  have hb0 : Below w.heap.size w ((w.alloc (.cells #[.int .u64 0] 37)).alloc (.cells #[.int .u64 0] 37)) := ((Below.refl _ w).alloc (Nat.le_refl _) _).alloc (by simp) _
  have hs0 : ((w.alloc (.cells #[.int .u64 0] 37)).alloc (.cells #[.int .u64 0] 37)).heap.size = w.heap.size + 1 + 1 := by simp
  refine callsIn_of_wp_marks Tryd.func15 rfl trivial ?_ rfl
  simp only [Tryd.ntmps15, List.size_toArray, List.length_cons, List.length_nil, Nat.reduceAdd, Nat.reduceSub, Array.replicate_succ, Array.replicate_zero, List.push_toArray, List.append_toArray, List.nil_append, List.cons_append]
  refine wpIn_seq_k (fun K0 hK0 => ?_)
  have HK0 := Lib.hid hK0
  clear hK0
  gi_wp2
  refine HK0.out _ _ ?_
  clear HK0
  refine wpIn_seq_k (fun K0 hK0 => ?_)
  have HK0 := Lib.hid hK0
  clear hK0
  gi_wp2
  refine HK0.out _ _ ?_
  clear HK0
  refine wpIn_seq_k (fun K0 hK0 => ?_)
  have HK0 := Lib.hid hK0
  clear hK0
  obtain ⟨w1, hw1⟩ : ∃ w1, (w.alloc (.cells #[.int .u64 0] 37)).alloc (.cells #[.int .u64 0] 37) = w1 := ⟨_, rfl⟩
  rw [hw1] at hr0 ho0 hb0 hs0 ⊢
  clear hw1
  rcases Nat.eq_zero_or_pos len with h0 | h0
  · have HR := Lib.hid (rs_new (L := L) w (O := 0) (by rw [if_neg (by omega)]) hr0 ho0 hb0)
    subst h0
    clear hr0 ho0 hb0 hs0
    gi_wp2_with fail
    refine HK0.out _ _ ?_
    exact HLo.out _ _ HR.out _ _ _ _ _
  · have hpos : 0 < (len : Int) := by omega
    have HOf := Lib.hid (Mk.of_any (some ⟨w1.heap.size, 0, none⟩) 1 [0] (w1.alloc (.cells #[.int .i64 0] 3)) (by simp) (ints_one (cell_new w1 (.int .i64 0) 3).1))
    have HR := Lib.hid (rs_new (L := L) w (O := Mk.withN 0 [0]) (by rw [if_pos (by omega)]) ((hr0.alloc (.cells #[.int .i64 0] 3)).other (by omega) _) ((ho0.alloc (.cells #[.int .i64 0] 3)).set (.int .u64 ((Mk.withN 0 [0] : Nat) : Int))) ((hb0.alloc hb0.size _).setCell (p := ⟨w.heap.size + 1, 0, none⟩) (by simp) _))
    have c1 := (ho0.alloc (.cells #[.int .i64 0] 3)).cell
    have c2 := (ho0.alloc (.cells #[.int .i64 0] 3)).frozen
    clear hr0 ho0 hb0 hs0 h0
    gi_wp2_with (first
      | (gi_at_call 26; refine (callsIn_wide.2 HOf.out).mono ?_; rintro e w9 ⟨rfl, rfl⟩)
      | fail)
    refine HK0.out _ _ ?_
    exact HLo.out _ _ HR.out _ _ _ _ _

theorem reached_any {L : List I5} {a : Option Addr} {len cap : Nat} (hL : L.length = len) (hlen : len ≤ 1000) (hfit : ∀ x ∈ L, Fit x) (w : World) (hI : InsAt w a L) (hT : Mk.Tab w) :
    Calls Tryd.prog 15 #[.slice a len cap] w fun e W' => ∃ M, RM L M ∧ e = .returned (.int .u64 ((M : Nat) : Int)) ∧ Ch [] w W' :=
  (callsIn_wide.1 (reached_in 0 hL hlen hfit w hI hT)).mono fun _ _ ⟨M, h1, h2, h3⟩ => ⟨M, h1, h2, Ch.of_below h3⟩
end Go.Proofs.YtadogffllkompaaDoor

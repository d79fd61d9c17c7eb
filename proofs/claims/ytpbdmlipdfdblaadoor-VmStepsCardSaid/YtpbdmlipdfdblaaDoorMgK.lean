/-
  Several texts in one: Plain: a run, how it goes on, and what always holds of it. · A run in memory; traps by value. · What a run tells; its registers, the five that a call hands over. · One instruction. (Written by gen/vm19c.py.) · One instruction: those that the frame does; whichever it is.
-/
import Derived.Test.YtpbdmlipdfdblaaDoorMgH
import Derived.Test.YtpbdmlipdfdblaaDoorMgC
import Derived.Deep.RegionHeld
import Derived.Deep.RegionHeld3
namespace Go.Proofs.YtpbdmlipdfdblaaDoor
open Go.RowKit

/-- A trap: its kind, the helper, the place of a word, the arguments, the value, the word. -/
structure TR where
  k : Int
  h : Int
  o : Int
  a : Nat → V5
  r : V5
  n : Nat
def T0 (k : Int) : TR := ⟨k, 0, 0, fun _ => num 0, num 0, 0⟩
def tl (t : TR) : List Value :=
  .int .i64 t.k :: .int .i64 t.h :: .int .i64 t.o :: (vl (t.a 0) ++ (vl (t.a 1) ++ (vl (t.a 2) ++ (vl (t.a 3) ++ (vl (t.a 4) ++ (vl t.r ++ [.int .u64 (t.n : Int)]))))))
theorem tl_len (t : TR) : (tl t).length = 34 := rfl
theorem tl_one (t : TR) : ∀ v ∈ tl t, v.oneCell' = true := by simp [tl, vl, Value.oneCell']

/-- A run: its frame, its place, its fuel, what it waits for, with what it is over, its result. -/
structure RNS where
  F : FV
  p : Int
  u : Nat
  t : TR
  e : Int
  v : Nat
def RNS.stop (s : RNS) (e : Int) : RNS := { s with t := T0 1, e := e }
def sumS (x : I5) (s : RNS) : RNS := if (fdo s.F x).2 ≠ 0 then RNS.stop { s with F := (fdo s.F x).1 } (fdo s.F x).2 else { s with F := (fdo s.F x).1, p := s.p + 1 }
def jmpS (x : I5) (s : RNS) : RNS := { s with p := if (fjp s.F x).1 = true then s.p + x.o + 1 else s.p + 1 }
def ldS (x : I5) (s : RNS) : RNS := if (s.F x.s.toNat).r = true then { s with t := ⟨3, 0, x.o, fun _ => num 0, s.F x.s.toNat, 0⟩ } else s.stop 17
def stS (x : I5) (s : RNS) : RNS := if (s.F x.d.toNat).r = true ∧ (s.F x.s.toNat).r = false then { s with t := ⟨4, 0, x.o, fun _ => num 0, s.F x.d.toNat, (s.F x.s.toNat).n⟩ } else s.stop 17
/-- Behind an instruction. -/
def insS (x : I5) (s : RNS) : RNS :=
  if x.op = 73 then { s.stop 0 with v := (s.F 0).n }
  else if x.op = 72 then { s with t := ⟨2, x.i, 0, fun k => s.F (1 + k), num 0, 0⟩ }
  else if x.op = 66 then ldS x s
  else if x.op = 67 then stS x s
  else if cls x.op = 2 then jmpS x s
  else sumS x s
/-- The instruction at a run's place. -/
def at' (L : List I5) (s : RNS) : I5 := ia L s.p.toNat
def oneS (L : List I5) (s : RNS) : RNS :=
  if s.t.k ≠ 0 then s else if s.u = 0 then s.stop 16 else insS (at' L s) { s with u := s.u - 1 }
def goS (L : List I5) : Nat → RNS → RNS
  | 0, s => s
  | n + 1, s => goS L n (oneS L s)
/-- Behind an answer. -/
def givS (L : List I5) (s : RNS) (v : V5) : RNS :=
  { s with F := if s.t.k = 2 then upd s.F 0 v else if s.t.k = 3 then upd s.F (at' L s).d.toNat v else s.F, t := T0 0, p := s.p + 1 }
def newS (u : Nat) (l : List V5) : RNS := ⟨updL F0 1 l, 0, u, T0 0, 0, 0⟩

/-- A right program. -/
structure RP (L : List I5) : Prop where
  pos : 1 ≤ L.length
  len : L.length ≤ 64
  fit : ∀ a, a < L.length → Fit (ia L a)
  chk : ∀ a, a < L.length → chk (ia L a) = 0
  jmp : ∀ a, a < L.length → cls (ia L a).op = 2 → 0 ≤ (a : Int) + (ia L a).o + 1 ∧ (a : Int) + (ia L a).o + 1 < (L.length : Int)
  nxt : ∀ a, a < L.length → (ia L a).op ≠ 73 → (ia L a).op ≠ 32 → a + 1 < L.length
theorem RP.of {L : List I5} {sl : Bool} (hfit : ∀ x ∈ L, Fit x) (h : (res L sl).2 = 0) : RP L := by
  obtain ⟨h1, h2, h3⟩ := res_right h
  have hf : ∀ a, a < L.length → Fit (ia L a) := fun a ha => by rw [← ia_at ha]; exact hfit _ (List.getElem_mem _)
  have hw : ∀ a, a < L.length → wrg L.length sl (ia L a) a = 0 := fun a ha => by
    have := h3 1 (by omega) a ha
    unfold lk at this
    rwa [if_neg (by decide), if_pos rfl] at this
  refine ⟨h1, h2, hf, fun a ha => ?_, fun a ha hc => ?_, fun a ha h73 h32 => ?_⟩
  · have := h3 0 (by omega) a ha
    unfold lk at this
    rwa [if_pos rfl] at this
  · have hw := hw a ha
    unfold wrg at hw
    split at hw
    · cases hw
    · rename_i g1
      unfold astr at g1
      rw [if_pos hc] at g1
      have g2 : inn L.length (tg a (ia L a).o) = true := by
        cases hh : inn L.length (tg a (ia L a).o) with
        | true => rfl
        | false => rw [hh] at g1; exact absurd rfl g1
      unfold inn at g2
      rw [decide_eq_true_eq] at g2
      have ht := tg_val (a := a) (o := (ia L a).o) (by omega) (hf a ha).o
      omega
  · have hw := hw a ha
    unfold wrg at hw
    split at hw
    · cases hw
    · split at hw
      · cases hw
      · split at hw
        · cases hw
        · split at hw
          · cases hw
          · rename_i g4
            have : a + 1 ≠ L.length := fun e => g4 ⟨e, h73, h32⟩
            omega

/-- What always holds of a run. -/
structure GS (L : List I5) (s : RNS) : Prop where
  fw : FW s.F
  p0 : 0 ≤ s.p
  p1 : s.p < (L.length : Int)
  k : s.t.k = 0 ∨ s.t.k = 1 ∨ (2 ≤ s.t.k ∧ s.t.k ≤ 4 ∧ (at' L s).op ≠ 73 ∧ (at' L s).op ≠ 32)
  u : s.u ≤ 256
theorem GS.lt {L : List I5} {s : RNS} (h : GS L s) : s.p.toNat < L.length := by have := h.p0; have := h.p1; omega
theorem GS.stop {L : List I5} {s : RNS} (h : GS L s) (e : Int) : GS L (s.stop e) := ⟨h.fw, h.p0, h.p1, .inr (.inl rfl), h.u⟩
theorem go_ja (a b : Nat) : goV 32 a b = true := by unfold goV; rfl
theorem GS.ins {L : List I5} {s : RNS} (hR : RP L) (h : GS L s) (hk : s.t.k = 0) : GS L (insS (at' L s) s) := by
  have hl := h.lt
  have hp := h.p0
  have hp1 := h.p1
  have hn := hR.nxt _ hl
  unfold insS
  split
  · exact ⟨h.fw, h.p0, h.p1, .inr (.inl rfl), h.u⟩
  · rename_i n73
    split
    · rename_i e72
      exact ⟨h.fw, h.p0, h.p1, .inr (.inr ⟨show (2 : Int) ≤ 2 by decide, show (2 : Int) ≤ 4 by decide, n73, by show (at' L s).op ≠ 32; rw [e72]; decide⟩), h.u⟩
    · split
      · rename_i e66
        unfold ldS
        split
        · exact ⟨h.fw, h.p0, h.p1, .inr (.inr ⟨show (2 : Int) ≤ 3 by decide, show (3 : Int) ≤ 4 by decide, n73, by show (at' L s).op ≠ 32; rw [e66]; decide⟩), h.u⟩
        · exact h.stop 17
      · split
        · rename_i e67
          unfold stS
          split
          · exact ⟨h.fw, h.p0, h.p1, .inr (.inr ⟨show (2 : Int) ≤ 4 by decide, show (4 : Int) ≤ 4 by decide, n73, by show (at' L s).op ≠ 32; rw [e67]; decide⟩), h.u⟩
          · exact h.stop 17
        · split
          · rename_i c2
            have hj := hR.jmp _ hl c2
            unfold jmpS
            split
            · exact ⟨h.fw, by show 0 ≤ s.p + _ + 1; unfold at'; omega, by show s.p + _ + 1 < _; unfold at'; omega, .inl hk, h.u⟩
            · rename_i hg
              have h32 : (at' L s).op ≠ 32 := fun e => hg (by
                unfold fjp
                rw [if_neg (by have := hR.chk _ hl; unfold at'; rw [this]; simp), if_pos c2]
                show goV (at' L s).op (s.F (at' L s).d.toNat).n (oth s.F (at' L s) 41).n = true
                rw [e]
                exact go_ja _ _)
              have := hn n73 h32
              exact ⟨h.fw, by show 0 ≤ s.p + 1; omega, by show s.p + 1 < _; omega, .inl hk, h.u⟩
          · rename_i c2
            have h32 : (at' L s).op ≠ 32 := fun e => c2 (by rw [e]; decide)
            have := hn n73 h32
            unfold sumS
            split
            · exact ⟨fdo_fw h.fw _, h.p0, h.p1, .inr (.inl rfl), h.u⟩
            · exact ⟨fdo_fw h.fw _, by show 0 ≤ s.p + 1; omega, by show s.p + 1 < _; omega, .inl hk, h.u⟩
theorem GS.one {L : List I5} {s : RNS} (hR : RP L) (h : GS L s) : GS L (oneS L s) := by
  unfold oneS
  split
  · exact h
  · rename_i hk
    split
    · exact h.stop 16
    · have h2 : GS L { s with u := s.u - 1 } := ⟨h.fw, h.p0, h.p1, h.k, by have := h.u; show s.u - 1 ≤ 256; omega⟩
      exact h2.ins hR (by simpa using hk)
theorem GS.go {L : List I5} (hR : RP L) : ∀ (n : Nat) {s : RNS}, GS L s → GS L (goS L n s)
  | 0, _, h => h
  | n + 1, _, h => GS.go hR n (h.one hR)
theorem GS.give {L : List I5} {s : RNS} (hR : RP L) (h : GS L s) (hk : 2 ≤ s.t.k) {v : V5} (hv : W64 v.n) : GS L (givS L s v) := by
  have hl := h.lt
  have hp := h.p0
  obtain h0 | h0 | ⟨_, _, h73, h32⟩ := h.k
  · omega
  · omega
  · have := hR.nxt _ hl h73 h32
    refine ⟨?_, by show 0 ≤ s.p + 1; omega, by show s.p + 1 < _; omega, .inl rfl, h.u⟩
    show FW (if s.t.k = 2 then _ else _)
    split
    · exact h.fw.upd _ hv
    · split
      · exact h.fw.upd _ hv
      · exact h.fw
theorem GS.new {L : List I5} (hR : RP L) {u : Nat} (hu : u ≤ 256) {l : List V5} (hl : ∀ x ∈ l, W64 x.n) : GS L (newS u l) :=
  ⟨updL_fw l F0 1 FW0 hl, Int.le_refl _, by have := hR.pos; show (0 : Int) < _; omega, .inl rfl, hu⟩

theorem insS_u (x : I5) (s : RNS) : (insS x s).u = s.u := by
  unfold insS ldS stS jmpS sumS RNS.stop
  repeat' split
  all_goals rfl
theorem goS_stop {L : List I5} {s : RNS} (h : s.t.k ≠ 0) : ∀ n, goS L n s = s
  | 0 => rfl
  | n + 1 => by
    have e : oneS L s = s := by unfold oneS; rw [if_pos h]
    unfold goS
    rw [e]
    exact goS_stop h n
theorem goS_add (L : List I5) : ∀ (m n : Nat) (s : RNS), goS L (m + n) s = goS L n (goS L m s)
  | 0, n, s => by rw [Nat.zero_add]; rfl
  | m + 1, n, s => by
    rw [show m + 1 + n = (m + n) + 1 by omega]
    exact goS_add L m n (oneS L s)
theorem goS_snoc (L : List I5) (n : Nat) (s : RNS) : goS L (n + 1) s = oneS L (goS L n s) := goS_add L n 1 s
/-- Behind more instructions than there is fuel it has stopped. -/
theorem goS_ends (L : List I5) : ∀ (m : Nat) (s : RNS), s.u < m → (goS L m s).t.k ≠ 0
  | 0, _, h => by omega
  | m + 1, s, h => by
    show (goS L m (oneS L s)).t.k ≠ 0
    by_cases hk : s.t.k ≠ 0
    · have e : oneS L s = s := by unfold oneS; rw [if_pos hk]
      rw [e, goS_stop hk]; exact hk
    · by_cases hu : s.u = 0
      · have e : oneS L s = s.stop 16 := by unfold oneS; rw [if_neg hk, if_pos hu]
        have hz : (s.stop 16).t.k ≠ 0 := by show (1 : Int) ≠ 0; decide
        rw [e, goS_stop hz]; exact hz
      · have e : oneS L s = insS (at' L s) { s with u := s.u - 1 } := by unfold oneS; rw [if_neg hk, if_neg hu]
        refine goS_ends L m _ ?_
        rw [e, insS_u]
        show s.u - 1 < m
        omega
/-- Who has stopped both ways has stopped alike. -/
theorem goS_same {L : List I5} {m n : Nat} {s : RNS} (hm : (goS L m s).t.k ≠ 0) (hn : (goS L n s).t.k ≠ 0) : goS L m s = goS L n s := by
  rcases Nat.le_total m n with h | h
  · obtain ⟨d, rfl⟩ : ∃ d, n = m + d := ⟨n - m, by omega⟩
    rw [goS_add, goS_stop hm]
  · obtain ⟨d, rfl⟩ : ∃ d, m = n + d := ⟨m - n, by omega⟩
    rw [goS_add, goS_stop hn]
end Go.Proofs.YtpbdmlipdfdblaaDoor

namespace Go.Proofs.YtpbdmlipdfdblaaDoor
open Go.RowKit Go.BigFrame

attribute [local go_sem] Oper.semAt_some

theorem At5.put {w : World} {b i o : Nat} {x : V5} (h : At5 w b i x) (ho : i + 5 ≤ o) (v : Value) : At5 (w.setCell ⟨b, o, none⟩ v) b i x :=
  ⟨setCell_other h.c0 (addr_ne_off (by omega)), setCell_other h.c1 (addr_ne_off (by omega)), setCell_other h.c2 (addr_ne_off (by omega)), setCell_other h.c3 (addr_ne_off (by omega)), setCell_other h.c4 (addr_ne_off (by omega))⟩
theorem FR.put {w : World} {b o : Nat} {F : FV} (h : FR w b F) (ho : 90 ≤ o) (v : Value) : FR (w.setCell ⟨b, o, none⟩ v) b F :=
  ⟨fun k hk => (h.a k hk).put (by omega) v, fun k => by simpa using h.fr k⟩
theorem FR.puts {w : World} {b o : Nat} {F : FV} (h : FR w b F) (ho : 90 ≤ o) (vs : List Value) : FR (w.setCells b o vs) b F :=
  ⟨fun k hk => At5.of (World.rangeAt_setCells_apart (h.a k hk).range b o vs (.inr (.inl (by rw [vl_len]; omega)))), fun k => by rw [World.frozen?_setCells]; exact h.fr k⟩
theorem range_put {w : World} {b o p : Nat} {cs : List Value} (h : w.rangeAt b o cs) (hp : p < o ∨ o + cs.length ≤ p) (x : Value) : (w.setCell ⟨b, p, none⟩ x).rangeAt b o cs := fun j v hv => by
  have hj : j < cs.length := (List.getElem?_eq_some_iff.1 hv).1
  exact setCell_other (h j v hv) (addr_ne_off (by omega))
theorem cell_puts {w : World} {b k : Nat} {v : Value} (h : w.cell? ⟨b, k, none⟩ = some v) (o : Nat) (vs : List Value) (hap : k < o ∨ o + vs.length ≤ k) : (w.setCells b o vs).cell? ⟨b, k, none⟩ = some v := by
  have hr : w.rangeAt b k [v] := fun j x hj => by
    match j, hj with
    | 0, hj => cases hj; exact h
  have := World.rangeAt_setCells_apart hr b o vs (.inr (by simp only [List.length_singleton]; omega)) 0 v rfl
  exact this

/-- A run lies in block b, its code in block c. -/
structure RB (w : World) (b c : Nat) (L : List I5) (s : RNS) : Prop where
  f : FR w b s.F
  l : ∃ cap, w.cell? ⟨b, 90, none⟩ = some (.slice (some ⟨c, 0, none⟩) L.length cap)
  i : ∀ k (hk : k < L.length), FiveO w c (k * 5) L[k]
  ne : c ≠ b
  p : w.cell? ⟨b, 91, none⟩ = some (.int .i64 s.p)
  u : w.cell? ⟨b, 92, none⟩ = some (.int .i64 (s.u : Int))
  t : w.rangeAt b 93 (tl s.t)
  e : w.cell? ⟨b, 127, none⟩ = some (.int .i64 s.e)
  v : w.cell? ⟨b, 128, none⟩ = some (.int .u64 (s.v : Int))
section
variable {w w' : World} {b c : Nat} {L : List I5} {s : RNS}
theorem RB.lt (h : RB w b c L s) : b < w.heap.size := h.f.lt
theorem RB.kc (h : RB w b c L s) : w.cell? ⟨b, 93, none⟩ = some (.int .i64 s.t.k) := h.t 0 _ rfl
theorem RB.ch {S : List Nat} (h : RB w b c L s) (hc : Ch S w w') (hb : b ∉ S) (hcS : c ∉ S) : RB w' b c L s := by
  have k : ∀ i v, w.cell? ⟨b, i, none⟩ = some v → w'.cell? ⟨b, i, none⟩ = some v := fun i v hv => (hc.cell (p := ⟨b, i, none⟩) (cell_lt hv) hb).trans hv
  obtain ⟨cap, hl⟩ := h.l
  exact ⟨h.f.ch hc hb, ⟨cap, k _ _ hl⟩, fun i hi => (h.i i hi).ch hc hcS, h.ne, k _ _ h.p, k _ _ h.u, fun j v hv => k _ _ (h.t j v hv), k _ _ h.e, k _ _ h.v⟩
theorem RB.quiet (h : RB w b c L s) (hc : Ch [] w w') : RB w' b c L s := h.ch hc (by simp) (by simp)
theorem RB.frame (h : RB w b c L s) (hc : Cf b w w') {G : FV} (hG : FR w' b G) : RB w' b c L { s with F := G } := by
  obtain ⟨cap, hl⟩ := h.l
  exact ⟨hG, ⟨cap, hc.up _ _ (by omega) hl⟩, fun i hi => (h.i i hi).ch hc.ch (by simpa using h.ne), h.ne, hc.up _ _ (by omega) h.p, hc.up _ _ (by omega) h.u, fun j v hv => hc.up _ _ (by omega) (h.t j v hv), hc.up _ _ (by omega) h.e, hc.up _ _ (by omega) h.v⟩
theorem setCh (w : World) (b o : Nat) (x : Value) : Ch [b] w (w.setCell ⟨b, o, none⟩ x) := (Ch.refl [b] w).setCell (p := ⟨b, o, none⟩) (by simp) x
theorem RB.code (h : RB w b c L s) (hc : Ch [b] w w') : ∀ k (hk : k < L.length), FiveO w' c (k * 5) L[k] := fun i hi => (h.i i hi).ch hc (by simpa using h.ne)
theorem RB.setP (h : RB w b c L s) (z : Int) : RB (w.setCell ⟨b, 91, none⟩ (.int .i64 z)) b c L { s with p := z } := by
  obtain ⟨cap, hl⟩ := h.l
  exact ⟨h.f.put (by omega) _, ⟨cap, setCell_other hl (addr_ne_off (by decide))⟩, h.code (setCh ..), h.ne, setCell_same h.p, setCell_other h.u (addr_ne_off (by decide)), range_put h.t (by omega) _, setCell_other h.e (addr_ne_off (by decide)), setCell_other h.v (addr_ne_off (by decide))⟩
theorem RB.setU (h : RB w b c L s) (n : Nat) : RB (w.setCell ⟨b, 92, none⟩ (.int .i64 (n : Int))) b c L { s with u := n } := by
  obtain ⟨cap, hl⟩ := h.l
  exact ⟨h.f.put (by omega) _, ⟨cap, setCell_other hl (addr_ne_off (by decide))⟩, h.code (setCh ..), h.ne, setCell_other h.p (addr_ne_off (by decide)), setCell_same h.u, range_put h.t (by omega) _, setCell_other h.e (addr_ne_off (by decide)), setCell_other h.v (addr_ne_off (by decide))⟩
theorem RB.setE (h : RB w b c L s) (z : Int) : RB (w.setCell ⟨b, 127, none⟩ (.int .i64 z)) b c L { s with e := z } := by
  obtain ⟨cap, hl⟩ := h.l
  exact ⟨h.f.put (by omega) _, ⟨cap, setCell_other hl (addr_ne_off (by decide))⟩, h.code (setCh ..), h.ne, setCell_other h.p (addr_ne_off (by decide)), setCell_other h.u (addr_ne_off (by decide)), range_put h.t (by rw [tl_len]; omega) _, setCell_same h.e, setCell_other h.v (addr_ne_off (by decide))⟩
theorem RB.setV (h : RB w b c L s) (n : Nat) : RB (w.setCell ⟨b, 128, none⟩ (.int .u64 (n : Int))) b c L { s with v := n } := by
  obtain ⟨cap, hl⟩ := h.l
  exact ⟨h.f.put (by omega) _, ⟨cap, setCell_other hl (addr_ne_off (by decide))⟩, h.code (setCh ..), h.ne, setCell_other h.p (addr_ne_off (by decide)), setCell_other h.u (addr_ne_off (by decide)), range_put h.t (by rw [tl_len]; omega) _, setCell_other h.e (addr_ne_off (by decide)), setCell_same h.v⟩
theorem RB.there (h : RB w b c L s) : w.there b 93 34 := fun j hj => ⟨World.rangeAt.isSome h.t j (by rw [tl_len]; exact hj), h.f.fr _⟩
theorem RB.setT (h : RB w b c L s) (T : TR) : RB (w.setCells b 93 (tl T)) b c L { s with t := T } := by
  obtain ⟨cap, hl⟩ := h.l
  exact ⟨h.f.puts (by omega) _, ⟨cap, cell_puts hl _ _ (by omega)⟩, h.code (chCells ..), h.ne, cell_puts h.p _ _ (by omega), cell_puts h.u _ _ (by omega), World.rangeAt_setCells_same w b 93 (tl T) (by rw [tl_len]; exact h.there), cell_puts h.e _ _ (by rw [tl_len]; omega), cell_puts h.v _ _ (by rw [tl_len]; omega)⟩
end

section
variable {ops : Array Oper} {rest : List Oper} {op : Oper} {a : Act} {w : World} {Q : Exit → Act → World → Prop}
/-- A trap is built. -/
theorem wpList_buildT {parts : Array (Nat × Operand)} (T : TR) (ho : op.op = .build 44 parts) (hg : op.guard = none) (hb : Tryd.prog.built 44 (parts.map fun (i, x) => (i, a.eval x)).toList = some (tl T).toArray)
    (h : wpList Tryd.prog ops Q rest (a.put op.dst (.agg (tl T).toArray)) w) : wpList Tryd.prog ops Q (op :: rest) a w :=
  wpList_build hg 44 parts ho (by rw [hb]; rfl) (by rw [hb]; exact h)
/-- A trap is written into a run. -/
theorem wpList_writeT {x y : Operand} (ho : op.op = .store 44 x y) {b o : Nat} (ht : w.there b o 34) (T : TR) (hw : Region.wanted op (yielded ops a.tmps) = true) (hx : a.eval x = .pointer (some ⟨b, o, none⟩)) (hy : a.eval y = .agg (tl T).toArray)
    (h : wpList Tryd.prog ops Q rest (a.put op.dst undef) (w.setCells b o (tl T))) : wpList Tryd.prog ops Q (op :: rest) a w :=
  wpList_want hw fun _ hK => wp_store_mid 44 x y ho b o (tl T).toArray hx hy (by rw [List.size_toArray, tl_len]; exact ht) (by rw [List.size_toArray, tl_len]; kernel_rfl) (all_oneCell_toArray (tl_one T)) (hK _ _ (by simpa using h))
/-- A trap is read. -/
theorem wpList_readT {x : Operand} (ho : op.op = .load 44 x) {b o : Nat} {T : TR} (hT : w.rangeAt b o (tl T)) (hw : Region.wanted op (yielded ops a.tmps) = true) (hx : a.eval x = .pointer (some ⟨b, o, none⟩))
    (h : wpList Tryd.prog ops Q rest (a.put op.dst (.agg (tl T).toArray)) w) : wpList Tryd.prog ops Q (op :: rest) a w :=
  wpList_want hw fun _ hK => wp_load_mid 44 x ho b o hx (tl T) _ hT Tryd.underlying44 rfl (by rw [tl_len]; kernel_rfl) (hK _ _ h)
end
theorem zT (w : World) : Sem.run Tryd.prog (zeroValue 44) w = .ok (.agg (tl (T0 0)).toArray) w := by kernel_rfl
theorem load_trap {w : World} {b o : Nat} {T : TR} (h : w.rangeAt b o (tl T)) : (loadVar 44 ⟨b, o, none⟩).run Tryd.prog w = .ok (.agg (tl T).toArray) w :=
  run_loadVar_mid w b o 44 (tl T) _ h Tryd.underlying44 rfl (by rw [tl_len]; kernel_rfl)

theorem stop_any {w : World} {b c : Nat} {L : List I5} {s : RNS} (h : RB w b c L s) (e : Int) :
    Calls Tryd.prog 38 #[.pointer (some ⟨b, 0, none⟩), .int .i64 e] w fun r w' => r = .returned (.tuple #[]) ∧ RB w' b c L (s.stop e) ∧ Ch [b] w w' := by
  obtain ⟨w1, hw1⟩ : ∃ W, w.setCells b 93 (tl (T0 1)) = W := ⟨_, rfl⟩
  have h1 := h.setT (T0 1)
  rw [hw1] at h1
  have HK := Lib.hid (show RB (w1.setCell ⟨b, 127, none⟩ (.int .i64 e)) b c L (s.stop e) ∧ Ch [b] w (w1.setCell ⟨b, 127, none⟩ (.int .i64 e)) from ⟨h1.setE e, by rw [← hw1]; exact (chCells w b _ _).trans (setCh ..)⟩)
  have HT := Lib.hid h.there
  have e1 := h1.e
  have f1 := h1.f.fr
  have HW := Lib.hid hw1
  clear h h1 hw1
  go_enter Tryd.func38, Tryd.ntmps38
  go_wp2_with (first
    | ((with_reducible show wpList _ _ _ (Oper.mk _ (Op.build 44 _) _ _ _ _ :: _) _ _); refine wpList_buildT (T0 1) rfl rfl (by kernel_rfl) ?_)
    | ((with_reducible show wpList _ _ _ (Oper.mk _ (Op.store 44 _ _) _ _ _ _ :: _) _ _); refine wpList_writeT rfl HT.out (T0 1) (by rfl) (by rfl) (by rfl) ?_; rw [HW.out])
    | fail)
  exact ⟨rfl, .tuple #[], by simp [results, Tryd.f38, go_sem], rfl, HK.out⟩
end Go.Proofs.YtpbdmlipdfdblaaDoor

namespace Go.Proofs.YtpbdmlipdfdblaaDoor
open Go.RowKit Go.BigFrame

attribute [local go_sem] Oper.semAt_some

theorem own_any (b : Nat) (w : World) : Calls Tryd.prog 42 #[.pointer (some ⟨b, 0, none⟩)] w fun e w' => e = .returned (.pointer (some ⟨b, 0, none⟩)) ∧ w = w' := by
  go_enter Tryd.func42, Tryd.ntmps42
  go_wp2_with fail
  go_ret
  exact ⟨rfl, rfl⟩
theorem own_nil (w : World) : Calls Tryd.prog 42 #[.pointer none] w fun e w' => e = .returned (.pointer none) ∧ w = w' := by
  go_enter Tryd.func42, Tryd.ntmps42
  go_wp2_with fail
  go_ret
  exact ⟨rfl, rfl⟩
theorem rreg_any {w : World} {b : Nat} {F : FV} (h : FR w b F) {k : Int} (hk : 0 ≤ k ∧ k ≤ 9) :
    Calls Tryd.prog 27 #[.pointer (some ⟨b, 0, none⟩), .int .i64 k] w fun e w' => e = .returned (.tuple #[vv (F k.toNat), .int .i64 0]) ∧ Ch [] w w' := by
  obtain ⟨n, rfl⟩ : ∃ n : Nat, k = (n : Int) := ⟨k.toNat, by omega⟩
  rw [Int.toNat_natCast]
  obtain ⟨w1, hw1⟩ : ∃ W, W = w.alloc (.cells #[.bool false, .int .i64 0, .int .i64 0, .int .i64 0, .int .u64 0] 41) := ⟨_, rfl⟩
  have hc : Ch [] w w1 := by rw [hw1]; exact (Ch.refl [] w).alloc _
  have hY : B5 w1 w.heap.size (num 0) := by rw [hw1]; exact B5.new w (num 0) 41
  have C := Lib.hid (reg_in (h.quiet hc) (k := n) (by omega))
  have HO := Lib.hid (fun w => own_any b w)
  generalize F n = x at *
  have HY := Lib.hid hY
  have HC := Lib.hid hc
  have HW := Lib.hid hw1
  clear h hk hY hc hw1
  unfold vv at *
  go_enter Tryd.func27, Tryd.ntmps27
  go_wp2_with fail
  rw [← HW.out]
  with_reducible refine (HO.out _).mono ?_
  rintro e w2 ⟨rfl, rfl⟩
  clear HW HO
  go_wp2_with fail
  with_reducible refine C.out.mono ?_
  rintro e w2 ⟨rfl, hc2⟩
  have hY2 := HY.out.quiet hc2
  have HC2 := Lib.hid (HC.out.trans hc2)
  have HY4 := Lib.hid (hY2.set x)
  obtain ⟨⟨y0, y1, y2, y3, y4⟩, yf⟩ := hY2
  clear C hc2 HC HY
  go_wp2_with fail
  obtain ⟨⟨z0, z1, z2, z3, z4⟩, -⟩ := HY4.out
  unfold st5 at z0 z1 z2 z3 z4
  simp only [Nat.zero_add] at z0 z1 z2 z3 z4
  refine bodyPost_ret (v := .tuple #[.agg #[.bool x.r, .int .i64 x.m, .int .i64 x.s, .int .i64 x.g, .int .u64 (x.n : Int)], .int .i64 0]) ?_ rfl ?_
  · simp [results, Tryd.f27, go_sem, z0, z1, z2, z3, z4]
  · exact ⟨rfl, HC2.out.fresh (st5_ch w2 w.heap.size 0 x) (by simp)⟩

section
variable {w : World} {b c : Nat} {L : List I5} {s : RNS}
theorem over_any (h : RB w b c L s) : Calls Tryd.prog 19 #[.pointer (some ⟨b, 0, none⟩)] w fun e w' => e = .returned (.bool (s.t.k == 1)) ∧ w = w' := by
  have k0 := h.kc
  clear h
  generalize s.t.k = k at *
  go_enter Tryd.func19, Tryd.ntmps19
  go_wp2_with fail
  go_ret
  exact ⟨rfl, rfl⟩
theorem asks_any (h : RB w b c L s) : Calls Tryd.prog 20 #[.pointer (some ⟨b, 0, none⟩)] w fun e w' => e = .returned (.bool (!(s.t.k == 1) && s.t.k != 0)) ∧ w = w' := by
  have HO := Lib.hid (over_any h)
  have k0 := h.kc
  clear h
  generalize s.t.k = k at *
  cases hk : k == 1
  all_goals
    rw [hk] at HO
    go_enter Tryd.func20, Tryd.ntmps20
    go_wp2_with (first | (with_reducible refine HO.out.mono ?_; rintro e w1 ⟨rfl, rfl⟩) | fail)
    go_ret
    exact ⟨rfl, rfl⟩
theorem codeE_any (h : RB w b c L s) : Calls Tryd.prog 15 #[.pointer (some ⟨b, 0, none⟩)] w fun e w' => e = .returned (.int .i64 s.e) ∧ w = w' := by
  have k0 := h.e
  clear h
  go_enter Tryd.func15, Tryd.ntmps15
  go_wp2_with fail
  go_ret
  exact ⟨rfl, rfl⟩
theorem result_any (h : RB w b c L s) : Calls Tryd.prog 16 #[.pointer (some ⟨b, 0, none⟩)] w fun e w' => e = .returned (.int .u64 (s.v : Int)) ∧ w = w' := by
  have k0 := h.v
  clear h
  go_enter Tryd.func16, Tryd.ntmps16
  go_wp2_with fail
  go_ret
  exact ⟨rfl, rfl⟩
theorem fuel_any (h : RB w b c L s) : Calls Tryd.prog 13 #[.pointer (some ⟨b, 0, none⟩)] w fun e w' => e = .returned (.int .i64 (s.u : Int)) ∧ w = w' := by
  have k0 := h.u
  clear h
  go_enter Tryd.func13, Tryd.ntmps13
  go_wp2_with fail
  go_ret
  exact ⟨rfl, rfl⟩
theorem place_any (h : RB w b c L s) : Calls Tryd.prog 14 #[.pointer (some ⟨b, 0, none⟩)] w fun e w' => e = .returned (.int .i64 s.p) ∧ w = w' := by
  have k0 := h.p
  clear h
  go_enter Tryd.func14, Tryd.ntmps14
  go_wp2_with fail
  go_ret
  exact ⟨rfl, rfl⟩
end

/-- The five that a call hands over. -/
def al (F : FV) : List Value := vl (F 1) ++ (vl (F 2) ++ (vl (F 3) ++ (vl (F 4) ++ vl (F 5))))
theorem al_range {w : World} {b : Nat} {F : FV} (h : FR w b F) : w.rangeAt b 5 (al F) := fun j v hv => by
  have hj : j < 25 := (List.getElem?_eq_some_iff.1 hv).1
  have e : (fl F)[5 + j]? = (al F)[j]? := by
    have : fl F = vl (F 0) ++ (al F ++ (List.range' 6 12).flatMap fun k => vl (F k)) := by
      unfold fl al
      rw [show List.range 18 = [0, 1, 2, 3, 4, 5] ++ List.range' 6 12 by decide, List.flatMap_append]
      simp [List.append_assoc]
    rw [this, List.getElem?_append_right (by rw [vl_len]; omega), vl_len, show 5 + j - 5 = j by omega, List.getElem?_append_left (by exact hj)]
  have := h.range (5 + j) v (by rw [e]; exact hv)
  rwa [Nat.zero_add] at this
theorem al_one (F : FV) : ∀ v ∈ al F, v.oneCell' = true := by simp [al, vl, Value.oneCell']
section
variable {ops : Array Oper} {rest : List Oper} {op : Oper} {a : Act} {w : World} {Q : Exit → Act → World → Prop}
theorem wpList_read5 {x : Operand} (ho : op.op = .load 42 x) {b o : Nat} {A : List Value} (hl : A.length = 25) (hT : w.rangeAt b o A) (hw : Region.wanted op (yielded ops a.tmps) = true) (hx : a.eval x = .pointer (some ⟨b, o, none⟩))
    (h : wpList Tryd.prog ops Q rest (a.put op.dst (.agg A.toArray)) w) : wpList Tryd.prog ops Q (op :: rest) a w :=
  wpList_want hw fun _ hK => wp_load_mid 42 x ho b o hx A _ hT Tryd.underlying42 rfl (by rw [hl]; kernel_rfl) (hK _ _ h)
theorem wpList_write5 {x y : Operand} (ho : op.op = .store 42 x y) {b : Nat} (ht : w.there b 0 25) {A : List Value} (hl : A.length = 25) (h1 : ∀ v ∈ A, v.oneCell' = true) (hw : Region.wanted op (yielded ops a.tmps) = true) (hx : a.eval x = .pointer (some ⟨b, 0, none⟩)) (hy : a.eval y = .agg A.toArray)
    (h : wpList Tryd.prog ops Q rest (a.put op.dst undef) (w.setCells b 0 A)) : wpList Tryd.prog ops Q (op :: rest) a w :=
  wpList_want hw fun _ hK => wp_store_mid 42 x y ho b 0 A.toArray hx hy (by rw [List.size_toArray, hl]; exact ht) (by rw [List.size_toArray, hl]; kernel_rfl) (all_oneCell_toArray h1) (hK _ _ (by simpa using h))
end
theorem load_al {w : World} {b : Nat} {A : List Value} (hl : A.length = 25) (h : w.rangeAt b 0 A) : (loadVar 42 ⟨b, 0, none⟩).run Tryd.prog w = .ok (.agg A.toArray) w :=
  run_loadVar_mid w b 0 42 A _ h Tryd.underlying42 rfl (by rw [hl]; kernel_rfl)
set_option maxRecDepth 10000 in
set_option maxHeartbeats 2000000 in
theorem args_any {w : World} {b : Nat} {F : FV} (h : FR w b F) : Calls Tryd.prog 59 #[.pointer (some ⟨b, 0, none⟩)] w fun e w' => e = .returned (.agg (al F).toArray) ∧ Ch [] w w' := by
  obtain ⟨W, hW⟩ : ∃ W, w.alloc (.cells z25 42) = W := ⟨_, rfl⟩
  have hth : W.there w.heap.size 0 25 := by rw [← hW]; exact there_new w z25 42
  have hc : Ch [] w W := by rw [← hW]; exact (Ch.refl [] w).alloc _
  have hA := al_range (h.quiet hc)
  have hl : (al F).length = 25 := rfl
  have h1 := al_one F
  generalize al F = A at *
  have HA := Lib.hid hA
  have HL := Lib.hid hl
  have H1 := Lib.hid h1
  have HR := Lib.hid (load_al hl (World.rangeAt_setCells_same W w.heap.size 0 A (by rw [hl]; exact hth)))
  have HC := Lib.hid (hc.fresh (chCells W w.heap.size A 0) (by simp))
  have HT := Lib.hid hth
  have HW := Lib.hid hW
  have hq : ∀ w : World, (Instr.arrayAt 42 (.slice (some ⟨b, 5, none⟩) 5 9)).run Tryd.prog w = .ok (.pointer (some ⟨b, 5, none⟩)) w := fun w => by simp [Instr.arrayAt, run_underlying Tryd.underlying42]
  clear hth hc hW h hA hl h1
  go_enter Tryd.func59, Tryd.ntmps59
  go_wp2_with (first
    | ((with_reducible show wpList _ _ _ (Oper.mk _ (Op.alloc 42) _ _ _ _ :: _) _ _); refine wpList_allocZ z25_zero rfl (by rfl) ?_; rw [HW.out])
    | ((with_reducible show wpList _ _ _ (Oper.mk _ (Op.load 42 _) _ _ _ _ :: _) _ _); refine wpList_read5 rfl HL.out HA.out (by rfl) (by rfl) ?_)
    | ((with_reducible show wpList _ _ _ (Oper.mk _ (Op.store 42 _ _) _ _ _ _ :: _) _ _); refine wpList_write5 rfl HT.out HL.out H1.out (by rfl) (by rfl) (by rfl) ?_)
    | fail)
  refine bodyPost_ret (v := .agg A.toArray) ?_ rfl ?_
  · exact results_one rfl rfl HR.out
  · exact ⟨rfl, HC.out⟩
end Go.Proofs.YtpbdmlipdfdblaaDoor

namespace Go.Proofs.YtpbdmlipdfdblaaDoor
open Go.RowKit Go.BigFrame

attribute [local go_sem] Oper.semAt_some

section
variable {w : World} {b c : Nat} {L : List I5} {s : RNS}

set_option maxHeartbeats 2000000 in
theorem load_any (h : RB w b c L s) {x : I5} (hs : 0 ≤ x.s ∧ x.s ≤ 9) :
    Calls Tryd.prog 60 #[.pointer (some ⟨b, 0, none⟩), iv x] w fun r w' => r = .returned (.tuple #[]) ∧ RB w' b c L (ldS x s) ∧ Ch [b] w w' := by
  obtain ⟨op, d, sr, o, i⟩ := x
  simp only at hs
  obtain ⟨W, hWd⟩ : ∃ W, W = w.alloc (.cells #[.int .i64 op, .int .i64 d, .int .i64 sr, .int .i64 o, .int .i64 i] 59) := ⟨_, rfl⟩
  have hc : Ch [] w W := by rw [hWd]; exact (Ch.refl [] w).alloc _
  have hI : Five W w.heap.size ⟨op, d, sr, o, i⟩ := by rw [hWd]; exact Five.new w ⟨op, d, sr, o, i⟩ 59
  have hB := h.quiet hc
  have HReg := Lib.hid (rreg_any hB.f hs)
  have HI := Lib.hid hI
  have HB := Lib.hid hB
  have HC := Lib.hid hc
  have HWd := Lib.hid hWd
  obtain ⟨G, hG⟩ : ∃ G, ldS ⟨op, d, sr, o, i⟩ s = G := ⟨_, rfl⟩
  rw [hG]
  have hg : G = if (s.F sr.toNat).r = true then { s with t := ⟨3, 0, o, fun _ => num 0, s.F sr.toNat, 0⟩ } else s.stop 17 := by rw [← hG]; rfl
  obtain ⟨X, hX⟩ : ∃ X, s.F sr.toNat = X := ⟨_, rfl⟩
  rw [hX] at HReg hg
  have HG := Lib.hid hg
  obtain ⟨a0, a1, a2, a3, a4⟩ := hI
  simp only at a0 a1 a2 a3 a4
  unfold iv
  unfold vv at HReg
  clear hG hX hs h hB hc hWd hg
  go_enter Tryd.func60, Tryd.ntmps60
  go_wp2_with fail
  rw [← HWd.out]
  with_reducible refine HReg.out.mono ?_
  rintro e w1 ⟨rfl, hc1⟩
  clear a0 a1 a2 a3 a4
  obtain ⟨a0, a1, a2, a3, a4⟩ := HI.out.ch hc1 (by simp)
  simp only at a0 a1 a2 a3 a4
  have n1 : w1.heap.size ≠ w.heap.size := Nat.ne_of_gt (cell_lt a0)
  obtain ⟨r, m, sl, g, n⟩ := X
  have hc2 : Ch [] W (w1.alloc (.cells #[.bool r, .int .i64 m, .int .i64 sl, .int .i64 g, .int .u64 (n : Int)] 41)) := hc1.alloc _
  have HB2 := Lib.hid (HB.out.quiet hc2)
  have HC2 := Lib.hid (HC.out.trans hc2)
  obtain ⟨q0, q1, q2, q3, q4⟩ := HI.out.ch hc2 (by simp)
  simp only at q0 q1 q2 q3 q4
  clear hc1 hc2 HB HC HI HReg HWd
  simp only at HG
  cases r
  · have hg := HG.out
    rw [if_neg (by simp)] at hg
    have HSt := Lib.hid (stop_any HB2.out 17)
    have HZ := Lib.hid hg
    clear hg HG
    go_wp2_with fail
    with_reducible refine HSt.out.mono ?_
    rintro e w3 ⟨rfl, h3, hc3⟩
    have HK := Lib.hid (And.intro h3 ((HC2.out.mono (T := [b]) (by simp)).trans hc3))
    clear h3 hc3
    go_wp2_with fail
    rw [HZ.out]
    exact ⟨rfl, .tuple #[], by simp [results, Tryd.f60, go_sem], rfl, HK.out⟩
  · have hg := HG.out
    rw [if_pos rfl] at hg
    obtain ⟨T, hT⟩ : ∃ T : TR, (⟨3, 0, o, fun _ => num 0, ⟨true, m, sl, g, n⟩, 0⟩ : TR) = T := ⟨_, rfl⟩
    rw [hT] at hg
    have HTd := Lib.hid hT.symm
    have HTh := Lib.hid HB2.out.there
    have HK := Lib.hid (And.intro (HB2.out.setT T) ((HC2.out.mono (T := [b]) (by simp)).trans (chCells _ b (tl T) 93)))
    have HZ := Lib.hid hg
    clear hg HG hT
    go_wp2_with (first
      | ((with_reducible show wpList _ _ _ (Oper.mk _ (Op.build 44 _) _ _ _ _ :: _) _ _); refine wpList_buildT T rfl rfl (by rw [HTd.out]; kernel_rfl) ?_)
      | ((with_reducible show wpList _ _ _ (Oper.mk _ (Op.store 44 _ _) _ _ _ _ :: _) _ _); refine wpList_writeT rfl HTh.out T (by rfl) (by rfl) (by rfl) ?_)
      | fail)
    rw [HZ.out]
    exact ⟨rfl, .tuple #[], by simp [results, Tryd.f60, go_sem], rfl, HK.out⟩

set_option maxHeartbeats 4000000 in
theorem store_any (h : RB w b c L s) {x : I5} (hd : 0 ≤ x.d ∧ x.d ≤ 9) (hs : 0 ≤ x.s ∧ x.s ≤ 9) :
    Calls Tryd.prog 61 #[.pointer (some ⟨b, 0, none⟩), iv x] w fun r w' => r = .returned (.tuple #[]) ∧ RB w' b c L (stS x s) ∧ Ch [b] w w' := by
  obtain ⟨op, d, sr, o, i⟩ := x
  simp only at hd hs
  obtain ⟨W, hWd⟩ : ∃ W, W = w.alloc (.cells #[.int .i64 op, .int .i64 d, .int .i64 sr, .int .i64 o, .int .i64 i] 59) := ⟨_, rfl⟩
  have hc : Ch [] w W := by rw [hWd]; exact (Ch.refl [] w).alloc _
  have hI : Five W w.heap.size ⟨op, d, sr, o, i⟩ := by rw [hWd]; exact Five.new w ⟨op, d, sr, o, i⟩ 59
  have hB := h.quiet hc
  have HReg := Lib.hid (rreg_any hB.f hd)
  have HReg2 := Lib.hid (fun W (h : RB W b c L s) => rreg_any h.f hs)
  have HI := Lib.hid hI
  have HB := Lib.hid hB
  have HC := Lib.hid hc
  have HWd := Lib.hid hWd
  obtain ⟨G, hG⟩ : ∃ G, stS ⟨op, d, sr, o, i⟩ s = G := ⟨_, rfl⟩
  rw [hG]
  have hg : G = if (s.F d.toNat).r = true ∧ (s.F sr.toNat).r = false then { s with t := ⟨4, 0, o, fun _ => num 0, s.F d.toNat, (s.F sr.toNat).n⟩ } else s.stop 17 := by rw [← hG]; rfl
  obtain ⟨X, hX⟩ : ∃ X, s.F d.toNat = X := ⟨_, rfl⟩
  obtain ⟨Y, hY⟩ : ∃ Y, s.F sr.toNat = Y := ⟨_, rfl⟩
  rw [hX] at HReg
  rw [hY] at HReg2
  rw [hX, hY] at hg
  have HG := Lib.hid hg
  obtain ⟨a0, a1, a2, a3, a4⟩ := hI
  simp only at a0 a1 a2 a3 a4
  unfold iv
  unfold vv at HReg HReg2
  clear hG hX hY hs hd h hB hc hWd hg
  go_enter Tryd.func61, Tryd.ntmps61
  go_wp2_with fail
  rw [← HWd.out]
  with_reducible refine HReg.out.mono ?_
  rintro e w1 ⟨rfl, hc1⟩
  clear a0 a1 a2 a3 a4
  obtain ⟨r, m, sl, g, n⟩ := X
  have hc2 : Ch [] W (w1.alloc (.cells #[.bool r, .int .i64 m, .int .i64 sl, .int .i64 g, .int .u64 (n : Int)] 41)) := hc1.alloc _
  obtain ⟨q0, q1, q2, q3, q4⟩ := HI.out.ch hc2 (by simp)
  simp only at q0 q1 q2 q3 q4
  have HX := Lib.hid (B5.new w1 ⟨r, m, sl, g, n⟩ 41)
  have HC2 := Lib.hid hc2
  have HR2 := Lib.hid (HReg2.out _ (HB.out.quiet hc2))
  clear hc1 hc2 HReg HReg2 HWd
  go_wp2_with fail
  with_reducible refine HR2.out.mono ?_
  rintro e w2 ⟨rfl, hc2⟩
  clear q0 q1 q2 q3 q4
  obtain ⟨r', m', sl', g', n'⟩ := Y
  have hc3 : Ch [] W (w2.alloc (.cells #[.bool r', .int .i64 m', .int .i64 sl', .int .i64 g', .int .u64 (n' : Int)] 41)) := (HC2.out.trans hc2).alloc _
  obtain ⟨q0, q1, q2, q3, q4⟩ := HI.out.ch hc3 (by simp)
  simp only at q0 q1 q2 q3 q4
  obtain ⟨⟨x0, x1, x2, x3, x4⟩, -⟩ := HX.out.quiet (hc2.alloc (.cells #[.bool r', .int .i64 m', .int .i64 sl', .int .i64 g', .int .u64 (n' : Int)] 41))
  simp only [Nat.zero_add] at x0 x1 x2 x3 x4
  have HB3 := Lib.hid (HB.out.quiet hc3)
  have HC3 := Lib.hid (HC.out.trans hc3)
  clear hc2 hc3 HB HC HI HX HC2 HR2
  simp only at HG
  cases r
  · have hg := HG.out
    rw [if_neg (by simp)] at hg
    have HSt := Lib.hid (stop_any HB3.out 17)
    have HZ := Lib.hid hg
    clear hg HG
    go_wp2_with fail
    with_reducible refine HSt.out.mono ?_
    rintro e w3 ⟨rfl, h3, hc3⟩
    have HK := Lib.hid (And.intro h3 ((HC3.out.mono (T := [b]) (by simp)).trans hc3))
    clear h3 hc3
    go_wp2_with fail
    rw [HZ.out]
    exact ⟨rfl, .tuple #[], by simp [results, Tryd.f61, go_sem], rfl, HK.out⟩
  · cases r'
    · have hg := HG.out
      rw [if_pos ⟨rfl, rfl⟩] at hg
      obtain ⟨T, hT⟩ : ∃ T : TR, (⟨4, 0, o, fun _ => num 0, ⟨true, m, sl, g, n⟩, n'⟩ : TR) = T := ⟨_, rfl⟩
      rw [hT] at hg
      have HTd := Lib.hid hT.symm
      have HTh := Lib.hid HB3.out.there
      have HK := Lib.hid (And.intro (HB3.out.setT T) ((HC3.out.mono (T := [b]) (by simp)).trans (chCells _ b (tl T) 93)))
      have HZ := Lib.hid hg
      clear hg HG hT
      go_wp2_with (first
        | ((with_reducible show wpList _ _ _ (Oper.mk _ (Op.build 44 _) _ _ _ _ :: _) _ _); refine wpList_buildT T rfl rfl (by rw [HTd.out]; kernel_rfl) ?_)
        | ((with_reducible show wpList _ _ _ (Oper.mk _ (Op.store 44 _ _) _ _ _ _ :: _) _ _); refine wpList_writeT rfl HTh.out T (by rfl) (by rfl) (by rfl) ?_)
        | fail)
      rw [HZ.out]
      exact ⟨rfl, .tuple #[], by simp [results, Tryd.f61, go_sem], rfl, HK.out⟩
    · have hg := HG.out
      rw [if_neg (by simp)] at hg
      have HSt := Lib.hid (stop_any HB3.out 17)
      have HZ := Lib.hid hg
      clear hg HG
      go_wp2_with fail
      with_reducible refine HSt.out.mono ?_
      rintro e w3 ⟨rfl, h3, hc3⟩
      have HK := Lib.hid (And.intro h3 ((HC3.out.mono (T := [b]) (by simp)).trans hc3))
      clear h3 hc3
      go_wp2_with fail
      rw [HZ.out]
      exact ⟨rfl, .tuple #[], by simp [results, Tryd.f61, go_sem], rfl, HK.out⟩

set_option maxRecDepth 10000 in
set_option maxHeartbeats 4000000 in
theorem jump_any (h : RB w b c L s) (hW : FW s.F) {x : I5} (hx : Fit x) (hp : 0 ≤ s.p ∧ s.p ≤ 1000) (ho : -32768 ≤ x.o ∧ x.o ≤ 32767) :
    Calls Tryd.prog 62 #[.pointer (some ⟨b, 0, none⟩), iv x] w fun r w' => r = .returned (.tuple #[]) ∧ RB w' b c L (jmpS x s) ∧ Ch [b] w w' := by
  obtain ⟨op, d, sr, o, i⟩ := x
  simp only at ho
  obtain ⟨W, hWd⟩ : ∃ W, W = w.alloc (.cells #[.int .i64 op, .int .i64 d, .int .i64 sr, .int .i64 o, .int .i64 i] 59) := ⟨_, rfl⟩
  have hc : Ch [] w W := by rw [hWd]; exact (Ch.refl [] w).alloc _
  have hI : Five W w.heap.size ⟨op, d, sr, o, i⟩ := by rw [hWd]; exact Five.new w ⟨op, d, sr, o, i⟩ 59
  have hB := h.quiet hc
  have HJ := Lib.hid (fjp_any (hB.f.quiet (Ch.refl [] W).drew) hW hx)
  have HI := Lib.hid hI
  have HB := Lib.hid hB
  have HC := Lib.hid hc
  have HWd := Lib.hid hWd
  obtain ⟨G, hG⟩ : ∃ G, jmpS ⟨op, d, sr, o, i⟩ s = G := ⟨_, rfl⟩
  rw [hG]
  have hg : G = { s with p := if (fjp s.F ⟨op, d, sr, o, i⟩).1 = true then s.p + o + 1 else s.p + 1 } := by rw [← hG]; rfl
  have HG := Lib.hid hg
  obtain ⟨a0, a1, a2, a3, a4⟩ := hI
  simp only at a0 a1 a2 a3 a4
  unfold iv at HJ ⊢
  generalize (fjp s.F ⟨op, d, sr, o, i⟩).2 = er at *
  generalize (fjp s.F ⟨op, d, sr, o, i⟩).1 = q at *
  obtain ⟨p, hpp⟩ : ∃ p, s.p = p := ⟨_, rfl⟩
  rw [hpp] at HG hp
  have HPP := Lib.hid hpp
  have e1 : IntKind.i64.wrap (p + o) = p + o := by rw [IntKind.wrap_i64]; omega
  have e2 : IntKind.i64.wrap (p + o + 1) = p + o + 1 := by rw [IntKind.wrap_i64]; omega
  have e3 : IntKind.i64.wrap (p + 1) = p + 1 := by rw [IntKind.wrap_i64]; omega
  clear hG h hB hc hWd hg hpp hp ho hW hx
  go_enter Tryd.func62, Tryd.ntmps62
  go_wp2_with fail
  rw [← HWd.out]
  go_region_held (fun w' => w'.cell? ⟨w.heap.size, 0, none⟩ = some (.int .i64 op) ∧ w'.cell? ⟨w.heap.size, 1, none⟩ = some (.int .i64 d) ∧ w'.cell? ⟨w.heap.size, 2, none⟩ = some (.int .i64 sr) ∧ w'.cell? ⟨w.heap.size, 3, none⟩ = some (.int .i64 o) ∧ w'.cell? ⟨w.heap.size, 4, none⟩ = some (.int .i64 i)) (go_keep) (first
    | (with_reducible refine HJ.out.mono ?_; rintro e w1 ⟨rfl, hc1⟩; have hc12 := (Ch.refl [] W).drew.trans hc1; have HC12 := Lib.hid hc12; obtain ⟨u0, u1, u2, u3, u4⟩ := HI.out.ch hc12 (by simp); simp only at u0 u1 u2 u3 u4; clear hc1 hc12)
    | fail)
  simp only [Exit.then]
  have hB1 := HB.out.quiet HC12.out
  have HB1 := Lib.hid hB1
  have HC1 := Lib.hid (HC.out.trans HC12.out)
  have p1 := hB1.p
  rw [HPP.out] at p1
  have f1 := hB1.f.fr
  clear a0 a1 a2 a3 a4 HB HC HC12 HI HWd HJ hB1
  cases q
  · have hg := HG.out
    rw [if_neg (by simp)] at hg
    have HZ := Lib.hid hg
    have HK := Lib.hid (And.intro (HB1.out.setP (p + 1)) ((HC1.out.mono (T := [b]) (by simp)).trans (setCh w1 b 91 (.int .i64 (p + 1)))))
    clear hg HG
    go_wp2_with fail
    rw [HZ.out]
    exact ⟨rfl, .tuple #[], by simp [results, Tryd.f62, go_sem], rfl, HK.out⟩
  · have hg := HG.out
    rw [if_pos rfl] at hg
    have HZ := Lib.hid hg
    have HK := Lib.hid (And.intro (((HB1.out.quiet (Ch.refl [] w1).drew).setP (p + o)).setP (p + o + 1)) (((HC1.out.drew.mono (T := [b]) (by simp)).trans (setCh w1.drew b 91 (.int .i64 (p + o)))).trans (setCh _ b 91 (.int .i64 (p + o + 1)))))
    clear hg HG
    go_wp2_with fail
    go_region
    go_wp2_with fail
    rw [HZ.out]
    exact ⟨rfl, .tuple #[], by simp [results, Tryd.f62, go_sem], rfl, HK.out⟩
end
end Go.Proofs.YtpbdmlipdfdblaaDoor

namespace Go.Proofs.YtpbdmlipdfdblaaDoor
open Go.RowKit Go.BigFrame

attribute [local go_sem] Oper.semAt_some

/-- What is built yields its value in every world. -/
theorem yieldsIf_build {ops : Array Oper} {S : World → Prop} {op : Oper} {a : Act} (hw : Region.wanted op (yielded ops a.tmps) = true) (t : TypeId) (parts : Array (Nat × Operand)) (ho : op.op = .build t parts) {cells : Array Value}
    (hb : Tryd.prog.built t (parts.map fun (i, x) => (i, a.eval x)).toList = some cells) : YieldsIf Tryd.prog ops S op (.agg cells) a :=
  .inl ⟨hw, fun w _ => by unfold execOp; simp only [ho, Sem.run_bind, run_build w t _ cells hb, Result.andThen_ok]; rfl⟩

section
variable {w : World} {b c : Nat} {L : List I5} {s : RNS}

set_option maxRecDepth 10000 in
set_option maxHeartbeats 4000000 in
theorem sum_any' (h : RB w b c L s) (hW : FW s.F) {x : I5} (hx : Fit x) (hp : 0 ≤ s.p ∧ s.p ≤ 1000) :
    Calls Tryd.prog 63 #[.pointer (some ⟨b, 0, none⟩), iv x] w fun r w' => r = .returned (.tuple #[]) ∧ RB w' b c L (sumS x s) ∧ Ch [b] w w' := by
  obtain ⟨op, d, sr, o, i⟩ := x
  obtain ⟨W, hWd⟩ : ∃ W, W = w.alloc (.cells #[.int .i64 op, .int .i64 d, .int .i64 sr, .int .i64 o, .int .i64 i] 59) := ⟨_, rfl⟩
  have hc : Ch [] w W := by rw [hWd]; exact (Ch.refl [] w).alloc _
  have hI : Five W w.heap.size ⟨op, d, sr, o, i⟩ := by rw [hWd]; exact Five.new w ⟨op, d, sr, o, i⟩ 59
  have hB := h.quiet hc
  have HD := Lib.hid (fdo_any (hB.f.quiet (Ch.refl [] W).drew) hW hx)
  have HI := Lib.hid hI
  have HB := Lib.hid hB
  have HC := Lib.hid hc
  have HWd := Lib.hid hWd
  have HBl := Lib.hid h.lt
  obtain ⟨G, hG⟩ : ∃ G, sumS ⟨op, d, sr, o, i⟩ s = G := ⟨_, rfl⟩
  rw [hG]
  have hg : G = if (fdo s.F ⟨op, d, sr, o, i⟩).2 ≠ 0 then RNS.stop { s with F := (fdo s.F ⟨op, d, sr, o, i⟩).1 } (fdo s.F ⟨op, d, sr, o, i⟩).2 else { s with F := (fdo s.F ⟨op, d, sr, o, i⟩).1, p := s.p + 1 } := by rw [← hG]; rfl
  have HG := Lib.hid hg
  obtain ⟨a0, a1, a2, a3, a4⟩ := hI
  simp only at a0 a1 a2 a3 a4
  unfold iv at HD ⊢
  generalize (fdo s.F ⟨op, d, sr, o, i⟩).2 = er at *
  generalize (fdo s.F ⟨op, d, sr, o, i⟩).1 = F1 at *
  obtain ⟨p, hpp⟩ : ∃ p, s.p = p := ⟨_, rfl⟩
  rw [hpp] at HG hp
  have HPP := Lib.hid hpp
  have e3 : IntKind.i64.wrap (p + 1) = p + 1 := by rw [IntKind.wrap_i64]; omega
  clear hG h hB hc hWd hg hpp hp hW hx
  go_enter Tryd.func63, Tryd.ntmps63
  go_wp2_with fail
  rw [← HWd.out]
  go_region_held (fun w' => w'.cell? ⟨w.heap.size, 0, none⟩ = some (.int .i64 op) ∧ w'.cell? ⟨w.heap.size, 1, none⟩ = some (.int .i64 d) ∧ w'.cell? ⟨w.heap.size, 2, none⟩ = some (.int .i64 sr) ∧ w'.cell? ⟨w.heap.size, 3, none⟩ = some (.int .i64 o) ∧ w'.cell? ⟨w.heap.size, 4, none⟩ = some (.int .i64 i)) (go_keep) (first
    | (with_reducible refine HD.out.mono ?_; rintro e w1 ⟨rfl, hF1, hc1⟩; have hB1 := (HB.out.quiet (Ch.refl [] W).drew).frame hc1 hF1; have HB1 := Lib.hid hB1; have HC1 := Lib.hid ((HC.out.drew.mono (T := [b]) (by simp)).trans hc1.ch); obtain ⟨u0, u1, u2, u3, u4⟩ := (HI.out.ch (Ch.refl [] W).drew (by simp)).ch hc1.ch (by have := HBl.out; simp; omega); simp only at u0 u1 u2 u3 u4; clear hc1 hF1 hB1)
    | fail)
  simp only [Exit.then]
  clear a0 a1 a2 a3 a4 u0 u1 u2 u3 u4 HB HC HI HWd HD
  have p1 := HB1.out.p
  simp only at p1
  rw [HPP.out] at p1
  have f1 := HB1.out.f.fr
  by_cases he : er = 0
  · have hg := HG.out
    rw [if_neg (by simpa using he)] at hg
    subst he
    have HZ := Lib.hid hg
    have HK := Lib.hid (And.intro (HB1.out.setP (p + 1)) (HC1.out.trans (setCh w1 b 91 (.int .i64 (p + 1)))))
    clear hg HG
    go_wp2_with fail
    rw [HZ.out]
    exact ⟨rfl, .tuple #[], by simp [results, Tryd.f63, go_sem], rfl, HK.out⟩
  · have hg := HG.out
    rw [if_pos he, ← HPP.out] at hg
    have hn : (er != 0) = true := by simpa using he
    have HSt := Lib.hid (stop_any HB1.out er)
    have HZ := Lib.hid hg
    clear hg HG he p1 f1
    go_wp2_with fail
    with_reducible refine HSt.out.mono ?_
    rintro e w3 ⟨rfl, h3, hc3⟩
    have HK := Lib.hid (And.intro h3 (HC1.out.trans hc3))
    clear h3 hc3
    go_wp2_with fail
    rw [HZ.out]
    exact ⟨rfl, .tuple #[], by simp [results, Tryd.f63, go_sem], rfl, HK.out⟩

set_option maxRecDepth 10000 in
set_option maxHeartbeats 8000000 in
theorem step_any (h : RB w b c L s) (hW : FW s.F) {x : I5} (hx : Fit x) (hk : chk x = 0) (hp : 0 ≤ s.p ∧ s.p ≤ 1000) :
    Calls Tryd.prog 39 #[.pointer (some ⟨b, 0, none⟩), iv x] w fun r w' => r = .returned (.tuple #[]) ∧ RB w' b c L (insS x s) ∧ Ch [b] w w' := by
  obtain ⟨-, hIn, -⟩ := chk_zero hk
  unfold inB at hIn
  have HCls := Lib.hid (fun w => class_any hx.op.1 hx.op.2 w)
  have HLd := Lib.hid (fun W (h : RB W b c L s) => load_any h (x := x) (by omega))
  have HSt := Lib.hid (fun W (h : RB W b c L s) => store_any h (x := x) (by omega) (by omega))
  have HJp := Lib.hid (fun W (h : RB W b c L s) => jump_any h hW hx hp (by omega))
  have HSm := Lib.hid (fun W (h : RB W b c L s) => sum_any' h hW hx hp)
  obtain ⟨op, d, sr, o, i⟩ := x
  simp only at hIn
  obtain ⟨W, hWd⟩ : ∃ W, W = w.alloc (.cells #[.int .i64 op, .int .i64 d, .int .i64 sr, .int .i64 o, .int .i64 i] 59) := ⟨_, rfl⟩
  have hc : Ch [] w W := by rw [hWd]; exact (Ch.refl [] w).alloc _
  have hI : Five W w.heap.size ⟨op, d, sr, o, i⟩ := by rw [hWd]; exact Five.new w ⟨op, d, sr, o, i⟩ 59
  have hB := h.quiet hc
  have HI := Lib.hid hI
  have HB := Lib.hid hB
  have HC := Lib.hid hc
  have HWd := Lib.hid hWd
  have HBl := Lib.hid h.lt
  obtain ⟨G, hG⟩ : ∃ G, insS ⟨op, d, sr, o, i⟩ s = G := ⟨_, rfl⟩
  rw [hG]
  have hg : G = if op = 73 then { s.stop 0 with v := (s.F 0).n } else if op = 72 then { s with t := ⟨2, i, 0, fun k => s.F (1 + k), num 0, 0⟩ } else if op = 66 then ldS ⟨op, d, sr, o, i⟩ s else if op = 67 then stS ⟨op, d, sr, o, i⟩ s else if cls op = 2 then jmpS ⟨op, d, sr, o, i⟩ s else sumS ⟨op, d, sr, o, i⟩ s := by rw [← hG]; rfl
  have HG := Lib.hid hg
  obtain ⟨a0, a1, a2, a3, a4⟩ := hI
  simp only at a0 a1 a2 a3 a4 HCls
  unfold iv at *
  clear hG h hc hWd hg hx hk hIn hW
  by_cases h73 : op = 73
  · subst h73
    have hg := HG.out
    rw [if_pos rfl] at hg
    have HZ := Lib.hid hg
    have HReg := Lib.hid (show Calls Tryd.prog 27 #[.pointer (some ⟨b, 0, none⟩), .int .i64 0] W fun e w' => e = .returned (.tuple #[vv (s.F 0), .int .i64 0]) ∧ Ch [] W w' from rreg_any hB.f (k := 0) (by decide))
    obtain ⟨X, hX⟩ : ∃ X, s.F 0 = X := ⟨_, rfl⟩
    rw [hX] at HReg HZ
    clear hg HG hB hp HCls HLd HSt HJp HSm hX
    unfold vv at HReg
    go_enter Tryd.func39, Tryd.ntmps39
    go_wp2_with fail
    rw [← HWd.out]
    with_reducible refine HReg.out.mono ?_
    rintro e w1 ⟨rfl, hc1⟩
    obtain ⟨r, m, sl, g, n⟩ := X
    have hc2 : Ch [] W (w1.alloc (.cells #[.bool r, .int .i64 m, .int .i64 sl, .int .i64 g, .int .u64 (n : Int)] 41)) := hc1.alloc _
    have HSp := Lib.hid (stop_any (HB.out.quiet hc2) 0)
    have HX := Lib.hid (B5.new w1 ⟨r, m, sl, g, n⟩ 41)
    have HC2 := Lib.hid (HC.out.trans hc2)
    have HNe := Lib.hid (show w1.heap.size ∉ [b] from by have := HB.out.lt; have := hc1.size; simp; omega)
    clear a0 a1 a2 a3 a4 hc1 hc2 HReg HWd
    go_wp2_with fail
    with_reducible refine HSp.out.mono ?_
    rintro e w3 ⟨rfl, h3, hc3⟩
    obtain ⟨⟨x0, x1, x2, x3, x4⟩, -⟩ := HX.out.ch hc3 HNe.out
    simp only [Nat.zero_add] at x0 x1 x2 x3 x4
    have v3 := h3.v
    have f3 := h3.f.fr
    have HK := Lib.hid (And.intro (h3.setV n) (((HC2.out.mono (T := [b]) (by simp)).trans hc3).trans (setCh w3 b 128 (.int .u64 (n : Int)))))
    clear h3 hc3 HSp HX HC2 HNe
    go_wp2_with fail
    rw [HZ.out]
    exact ⟨rfl, .tuple #[], by simp [results, Tryd.f39, go_sem], rfl, HK.out⟩
  · have e73 : (op == 73) = false := by simpa using h73
    have hg := HG.out
    rw [if_neg h73] at hg
    have HG1 := Lib.hid hg
    clear hg HG h73
    by_cases h72 : op = 72
    · subst h72
      have hg := HG1.out
      rw [if_pos rfl] at hg
      obtain ⟨T, hT⟩ : ∃ T : TR, (⟨2, i, 0, fun k => s.F (1 + k), num 0, 0⟩ : TR) = T := ⟨_, rfl⟩
      rw [hT] at hg
      have HZ := Lib.hid hg
      have HAr := Lib.hid (args_any (hB.f.quiet (Ch.refl [] W).drew))
      have hA : (Tryd.prog.built 44 [(0, .int .i64 2), (1, .int .i64 i), (3, .agg (al s.F).toArray)]) = some (tl T).toArray := by rw [← hT]; kernel_rfl
      generalize al s.F = A at *
      have HA := Lib.hid hA
      clear hg HG1 hp HCls HLd HSt HJp HSm hT hB hA
      go_enter Tryd.func39, Tryd.ntmps39
      go_wp2_with fail
      rw [← HWd.out]
      refine wp_region_noPanic ?_
      refine wp_region_held_drew (S := fun w' : World => w'.cell? ⟨w.heap.size, 4, none⟩ = some (.int .i64 i)) (by kernel_rfl) (show W.drew.cell? _ = _ from a4) (fun hHeld => ?_)
      clear a0 a1 a2 a3 a4
      refine wpAnyH_take (i := 0) (oi := { dst := some 29, op := _, type := _, pos := _, after := _, guard := _ }) (v := ?v0) rfl (by kernel_rfl) (by kernel_rfl) (by kernel_rfl) (fun _ _ _ h => h) (.inl ⟨by rfl, ?h0⟩) (by assumption) ?_
      case h0 => intro wz hSw; go_simp; (try with_reducible rfl)
      try simp only [Act.put, List.setIfInBounds_toArray, List.set_cons_zero, List.set_cons_succ]
      refine wpAnyH_take (i := 1) (oi := { dst := some 30, op := _, type := _, pos := _, after := _, guard := _ }) (v := ?v1) rfl (by kernel_rfl) (by kernel_rfl) (by kernel_rfl) (fun _ _ _ h => h) (.inl ⟨by rfl, ?h1⟩) (by assumption) ?_
      case h1 => intro wz hSw; go_simp; (try with_reducible rfl)
      try simp only [Act.put, List.setIfInBounds_toArray, List.set_cons_zero, List.set_cons_succ]
      refine wpAnyH_take (i := 2) (oi := { dst := some 31, op := _, type := _, pos := _, after := _, guard := _ }) (v := ?v2) rfl (by kernel_rfl) (by kernel_rfl) (by kernel_rfl) (fun _ _ _ h => h) (.inl ⟨by rfl, ?h2⟩) (by assumption) ?_
      case h2 => intro wz hSw; go_simp; (try with_reducible rfl)
      try simp only [Act.put, List.setIfInBounds_toArray, List.set_cons_zero, List.set_cons_succ]
      refine wpAnyH_take (i := 3) (oi := { dst := some 32, op := _, type := _, pos := _, after := _, guard := _ }) (v := ?v3) rfl (by kernel_rfl) (by kernel_rfl) (by kernel_rfl) (fun _ _ _ h => h) (.inl ⟨by rfl, ?h3⟩) (by assumption) ?_
      case h3 => intro wz hSw; go_simp; (try with_reducible rfl)
      try simp only [Act.put, List.setIfInBounds_toArray, List.set_cons_zero, List.set_cons_succ]
      refine wpAnyH_take (i := 4) (oi := { dst := some 33, op := _, type := _, pos := _, after := _, guard := _ }) (v := ?v4) rfl (by kernel_rfl) (by kernel_rfl) (by kernel_rfl) (fun _ _ _ h => h) (.inl ⟨by rfl, ?h4⟩) (by assumption) ?_
      case h4 => intro wz hSw; go_simp; (try with_reducible rfl)
      try simp only [Act.put, List.setIfInBounds_toArray, List.set_cons_zero, List.set_cons_succ]
      refine wpAnyH_take (i := 5) (oi := { dst := some 34, op := _, type := _, pos := _, after := _, guard := _ }) (v := ?v5) rfl (by kernel_rfl) (by kernel_rfl) (by kernel_rfl) (fun _ _ _ h => h) (.inl ⟨by rfl, ?h5⟩) (by assumption) ?_
      case h5 => intro wz hSw; go_simp; (try with_reducible rfl)
      try simp only [Act.put, List.setIfInBounds_toArray, List.set_cons_zero, List.set_cons_succ]
      refine wpAnyH_ready (rs := [6]) (by kernel_rfl) (by simp) ?_
      refine AllReadyH.cons (o := { dst := some 35, op := _, type := _, pos := _, after := _, guard := _ }) rfl (fun K hK => ?_) AllReadyH.nil
      go_simp
      with_reducible refine HAr.out.mono ?_
      rintro e w1 ⟨rfl, hc1⟩
      have HC12 := Lib.hid ((Ch.refl [] W).drew.trans hc1)
      have k4 := (HI.out.ch HC12.out (by simp)).c4
      simp only at k4
      clear hc1
      refine hK.out _ _ k4 (fun hHeld => ?_)
      clear hK K
      try simp only [Act.put, List.setIfInBounds_toArray, List.set_cons_zero, List.set_cons_succ]
      refine wpAnyH_take (i := 7) (oi := { dst := some 36, op := _, type := _, pos := _, after := _, guard := _ }) (v := .agg (tl T).toArray) rfl (by kernel_rfl) (by kernel_rfl) (by kernel_rfl) (fun _ _ _ h => h) (yieldsIf_build (by rfl) 44 _ rfl (Eq.trans (by kernel_rfl) HA.out)) (by assumption) ?_
      try simp only [Act.put, List.setIfInBounds_toArray, List.set_cons_zero, List.set_cons_succ]
      refine wpAnyH_take (i := 8) (oi := { dst := some 37, op := _, type := _, pos := _, after := _, guard := _ }) (v := ?v8) rfl (by kernel_rfl) (by kernel_rfl) (by kernel_rfl) (fun _ _ _ h => h) (.inl ⟨by rfl, ?h8⟩) (by assumption) ?_
      case h8 => intro wz hSw; go_simp; (try with_reducible rfl)
      try simp only [Act.put, List.setIfInBounds_toArray, List.set_cons_zero, List.set_cons_succ]
      refine wpAnyH_take (i := 9) (oi := { dst := some 38, op := _, type := _, pos := _, after := _, guard := _ }) (v := ?v9) rfl (by kernel_rfl) (by kernel_rfl) (by kernel_rfl) (fun _ _ _ h => h) (.inl ⟨by rfl, ?h9⟩) (by assumption) ?_
      case h9 => intro wz hSw; go_simp; (try with_reducible rfl)
      try simp only [Act.put, List.setIfInBounds_toArray, List.set_cons_zero, List.set_cons_succ]
      have HB1 := Lib.hid (HB.out.quiet HC12.out)
      have HTh := Lib.hid HB1.out.there
      have HB2 := Lib.hid (HB1.out.setT T)
      have HC2 := Lib.hid (((HC.out.trans HC12.out).mono (T := [b]) (by simp)).trans (chCells w1 b (tl T) 93))
      have m4 := (HI.out.ch ((HC12.out.mono (T := [b]) (by simp)).trans (chCells w1 b (tl T) 93)) (by have := HBl.out; simp; omega)).c4
      simp only at m4
      refine wpAnyH_ready (rs := [10]) (by kernel_rfl) (by simp) ?_
      refine AllReadyH.cons (o := { dst := none, op := _, type := _, pos := _, after := _, guard := _ }) rfl (fun K hK => ?_) AllReadyH.nil
      rw [if_pos (by rfl)]
      refine wp_store_mid 44 _ _ rfl b 93 (tl T).toArray (by rfl) (by rfl) (by rw [List.size_toArray, tl_len]; exact HTh.out) (by rw [List.size_toArray, tl_len]; kernel_rfl) (all_oneCell_toArray (tl_one T)) ?_
      refine hK.out _ _ m4 (fun hHeld => ?_)
      clear hK K
      try simp only [Act.put]
      refine wpAnyH_done (by kernel_rfl) ?_ _
      refine NoPanic.normal ?_
      go_wp2_with fail
      rw [HZ.out]
      exact ⟨rfl, .tuple #[], by simp [results, Tryd.f39, go_sem], rfl, HB2.out, HC2.out⟩
    · have e72 : (op == 72) = false := by simpa using h72
      have hg := HG1.out
      rw [if_neg h72] at hg
      have HG2 := Lib.hid hg
      clear hg HG1 h72
      by_cases h66 : op = 66
      · subst h66
        have hg := HG2.out
        rw [if_pos rfl] at hg
        have HZ := Lib.hid hg
        have HCl := Lib.hid (HLd.out W hB)
        clear hg HG2 hp HCls HLd HSt HJp HSm hB
        go_enter Tryd.func39, Tryd.ntmps39
        go_wp2_with fail
        rw [← HWd.out]
        with_reducible refine HCl.out.mono ?_
        rintro e w3 ⟨rfl, h3, hc3⟩
        have HK := Lib.hid (And.intro h3 ((HC.out.mono (T := [b]) (by simp)).trans hc3))
        clear h3 hc3
        go_wp2_with fail
        rw [HZ.out]
        exact ⟨rfl, .tuple #[], by simp [results, Tryd.f39, go_sem], rfl, HK.out⟩
      · have e66 : (op == 66) = false := by simpa using h66
        have hg := HG2.out
        rw [if_neg h66] at hg
        have HG3 := Lib.hid hg
        clear hg HG2 h66
        by_cases h67 : op = 67
        · subst h67
          have hg := HG3.out
          rw [if_pos rfl] at hg
          have HZ := Lib.hid hg
          have HCl := Lib.hid (HSt.out W hB)
          clear hg HG3 hp HCls HLd HSt HJp HSm hB
          go_enter Tryd.func39, Tryd.ntmps39
          go_wp2_with fail
          rw [← HWd.out]
          with_reducible refine HCl.out.mono ?_
          rintro e w3 ⟨rfl, h3, hc3⟩
          have HK := Lib.hid (And.intro h3 ((HC.out.mono (T := [b]) (by simp)).trans hc3))
          clear h3 hc3
          go_wp2_with fail
          rw [HZ.out]
          exact ⟨rfl, .tuple #[], by simp [results, Tryd.f39, go_sem], rfl, HK.out⟩
        · have e67 : (op == 67) = false := by simpa using h67
          have hg := HG3.out
          rw [if_neg h67] at hg
          have HG4 := Lib.hid hg
          clear hg HG3 h67
          by_cases h2 : cls op = 2
          · have hg := HG4.out
            rw [if_pos h2] at hg
            rw [h2] at HCls
            have HZ := Lib.hid hg
            have HCl := Lib.hid (HJp.out W hB)
            clear hg HG4 hp HLd HSt HJp HSm hB h2
            go_enter Tryd.func39, Tryd.ntmps39
            go_wp2_with fail
            rw [← HWd.out]
            with_reducible refine (HCls.out _).mono ?_
            rintro e w2 ⟨rfl, rfl⟩
            go_wp2_with fail
            with_reducible refine HCl.out.mono ?_
            rintro e w3 ⟨rfl, h3, hc3⟩
            have HK := Lib.hid (And.intro h3 ((HC.out.mono (T := [b]) (by simp)).trans hc3))
            clear h3 hc3
            go_wp2_with fail
            rw [HZ.out]
            exact ⟨rfl, .tuple #[], by simp [results, Tryd.f39, go_sem], rfl, HK.out⟩
          · have hg := HG4.out
            rw [if_neg h2] at hg
            have e2 : (cls op == 2) = false := by simpa using h2
            have HZ := Lib.hid hg
            have HCl := Lib.hid (HSm.out W hB)
            generalize cls op = k at *
            clear hg HG4 hp HLd HSt HJp HSm hB h2
            go_enter Tryd.func39, Tryd.ntmps39
            go_wp2_with fail
            rw [← HWd.out]
            with_reducible refine (HCls.out _).mono ?_
            rintro e w2 ⟨rfl, rfl⟩
            go_wp2_with fail
            with_reducible refine HCl.out.mono ?_
            rintro e w3 ⟨rfl, h3, hc3⟩
            have HK := Lib.hid (And.intro h3 ((HC.out.mono (T := [b]) (by simp)).trans hc3))
            clear h3 hc3
            go_wp2_with fail
            rw [HZ.out]
            exact ⟨rfl, .tuple #[], by simp [results, Tryd.f39, go_sem], rfl, HK.out⟩
end
end Go.Proofs.YtpbdmlipdfdblaaDoor

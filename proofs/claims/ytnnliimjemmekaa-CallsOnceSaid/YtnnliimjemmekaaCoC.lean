/-
  CallsOnce: a part (cl).
-/
import Derived.Test.YtnnliimjemmekaaCoA
import Derived.Deep.RegionHeld3
import Derived.Deep.CutBlock
namespace Go.Proofs.Ytnnliimjemmekaa
open Go.RowKit Go.Maps Go.BigFrame

attribute [local go_sem] Oper.semAt_some

set_option maxRecDepth 100000 in
set_option maxHeartbeats 4000000 in
theorem once_cl {w w3 : World} {base top A X9 X10 X11 n : Nat} {gen : Int} {C : Nat → Nat} {g : Nat → Int} {t : Nat → Bool} {la : Nat → Int} (hO : OS w w3 base top A X9 X10 X11 n gen C g t la) (hn : n ≤ 60) (hg : gen < (n : Int))
    {u0 u1 u2 u3 u4 u5 u6 u8 u9 u11 u14 u15 u16 u17 u18 u19 u20 u21 u22 u23 u24 u25 u26 u27 u28 u29 u30 u31 u32 u33 u34 u35 u36 u37 u38 u39 u40 u41 u42 u43 u44 u45 u46 u47 u48 u49 u50 u51 u52 u53 u54 u55 u56 u57 u58 u59 u60 u61 u62 u63 u64 u65 u66 u67 u68 u69 u70 u71 u72 u73 u74 u75 u76 u77 u78 u79 u80 u81 u82 u83 u84 u85 u86 u87 u88 u89 u90 u91 u92 u93 u94 u95 u96 u97 u98 u99 u100 u101 u102 u103 u104 u105 u106 u107 u108 u109 u110 u111 u112 u113 u114 u115 u116 u117 u118 u119 u120 u121 u122 u123 u124 u125 u126 u127 u128 u129 u130 u131 u132 u133 u134 u135 u136 u137 u138 u139 u140 u141 u142 u143 u144 u145 u146 u147 u148 u149 u150 u151 u152 u153 u154 u155 u156 u157 u158 u159 u160 u161 u162 u163 u164 u165 u166 u167 u168 u169 u170 u171 u172 u173 u174 u175 u176 u177 u178 u179 u180 : Value} {Q : Exit → Act → World → Prop}
    (hQ : ∀ ⦃x6 x12 x16 x66 x67 x68 x69 x70 x71 x72 x73 x74 x75 x76 x77 x78 x79 x80 x81 x82 : Value⦄ ⦃wq : World⦄, x12 = .int .i64 (gen + 1) ∧ OS w wq base top A X9 X10 X11 n (gen + 1) C (giveG n (gen + 1) g) t la → Q .normal { tmps := #[u0, u1, u2, u3, u4, u5, x6, .pointer (some ⟨A, 0, none⟩), u8, u9, .pointer (some ⟨X10, 0, none⟩), u11, x12, .int .i64 (n : Int), u14, u15, x16, u17, u18, u19, u20, u21, u22, u23, u24, u25, u26, u27, u28, u29, u30, u31, u32, u33, u34, u35, u36, u37, u38, u39, u40, u41, u42, u43, u44, u45, u46, u47, u48, u49, u50, u51, u52, u53, u54, u55, u56, u57, u58, u59, u60, u61, u62, u63, u64, u65, x66, x67, x68, x69, x70, x71, x72, x73, x74, x75, x76, x77, x78, x79, x80, x81, x82, u83, u84, u85, u86, u87, u88, u89, u90, u91, u92, u93, u94, u95, u96, u97, u98, u99, u100, u101, u102, u103, u104, u105, u106, u107, u108, u109, u110, u111, u112, u113, u114, u115, u116, u117, u118, u119, u120, u121, u122, u123, u124, u125, u126, u127, u128, u129, u130, u131, u132, u133, u134, u135, u136, u137, u138, u139, u140, u141, u142, u143, u144, u145, u146, u147, u148, u149, u150, u151, u152, u153, u154, u155, u156, u157, u158, u159, u160, u161, u162, u163, u164, u165, u166, u167, u168, u169, u170, u171, u172, u173, u174, u175, u176, u177, u178, u179, u180], defers := [] } wq) :
    Code.wp Try.prog (codeOf [1, 1, 1, 1, 1, 1, 1, 0, 1, 1, 1, 1, 0, 1, 1, 1, 1, 0, 1, 0] (Try.f4.body.getD .skip)) Q { tmps := #[u0, u1, u2, u3, u4, u5, u6, .pointer (some ⟨A, 0, none⟩), u8, u9, .pointer (some ⟨X10, 0, none⟩), u11, .int .i64 gen, .int .i64 (n : Int), u14, u15, u16, u17, u18, u19, u20, u21, u22, u23, u24, u25, u26, u27, u28, u29, u30, u31, u32, u33, u34, u35, u36, u37, u38, u39, u40, u41, u42, u43, u44, u45, u46, u47, u48, u49, u50, u51, u52, u53, u54, u55, u56, u57, u58, u59, u60, u61, u62, u63, u64, u65, u66, u67, u68, u69, u70, u71, u72, u73, u74, u75, u76, u77, u78, u79, u80, u81, u82, u83, u84, u85, u86, u87, u88, u89, u90, u91, u92, u93, u94, u95, u96, u97, u98, u99, u100, u101, u102, u103, u104, u105, u106, u107, u108, u109, u110, u111, u112, u113, u114, u115, u116, u117, u118, u119, u120, u121, u122, u123, u124, u125, u126, u127, u128, u129, u130, u131, u132, u133, u134, u135, u136, u137, u138, u139, u140, u141, u142, u143, u144, u145, u146, u147, u148, u149, u150, u151, u152, u153, u154, u155, u156, u157, u158, u159, u160, u161, u162, u163, u164, u165, u166, u167, u168, u169, u170, u171, u172, u173, u174, u175, u176, u177, u178, u179, u180], defers := [] } w3 := by
  have HQ := Lib.hid hQ
  have HO := Lib.hid hO
  clear hQ hO
  simp only [codeOf, Try.f4, Option.getD_some]
  have hge := HO.out.on.gen0
  have hCl := HO.out.lc.close (gen := gen + 1) (by omega) (by omega)
  have hfc : (fun i => (fT C g t n i).map (giveT (gen + 1))) = fT C (giveG n (gen + 1) g) t n := by funext i; exact fT_close i
  rw [hfc] at hCl
  have HCl := Lib.hid hCl
  have HOn := Lib.hid (HO.out.on.close hg)
  have hw1 : IntKind.i64.wrap (gen + 1) = gen + 1 := IntWalk.i64_in _ (by omega)
  obtain ⟨S, hS⟩ : ∃ S : Int, S = (sumN (fun i => zc (fT C g t n i)) 4 : Int) := ⟨_, rfl⟩
  rw [← hS] at HCl
  have hgr : 0 ≤ gen ∧ gen < 60 := by omega
  clear hCl hfc hS hg
  go_wp2_with fail
  with_reducible refine HCl.out.mono ?_
  rintro e w4 ⟨rfl, hl4, hc4⟩
  have HL4 := Lib.hid hl4
  have HC4 := Lib.hid hc4
  have HA4 := Lib.hid (HO.out.ar.own HO.out.t9 HO.out.t10 HO.out.t11 hc4)
  clear hl4 hc4 hw1 HCl
  go_frame
  go_wp2_with fail
  go_loopw [16] (fun r wr => ∃ m : Nat, m ≤ n ∧ r = .int .i64 ((m : Int) + 1) ∧ Ch [X10] w4 wr ∧ Arr wr X10 61 (giveG m (gen + 1) g)) (fun r _ => n + 1 - (intOf r).toNat)
  case atStart => exact ⟨0, Nat.zero_le _, rfl, Ch.refl _ _, by rw [giveG_zero]; exact HA4.out.a10⟩
  case round =>
    obtain ⟨m, hm, rfl, hch, har⟩ := hrel
    have HCh := Lib.hid hch
    have HAr := Lib.hid har
    by_cases hmn : m < n
    · have hle : decide (((m : Int) + 1) ≤ (n : Int)) = true := decide_eq_true (by omega)
      have h0 : (0 : Int) ≤ (m : Int) + 1 := by omega
      have h61 : (m : Int) + 1 < 61 := by omega
      have htn : ((m : Int) + 1).toNat = m + 1 := by omega
      have hcc := har.c (m + 1) (by omega)
      have hff := har.fr (m + 1)
      rw [giveG_at] at hcc
      have hw2 : IntKind.i64.wrap ((m : Int) + 1 + 1) = (m : Int) + 1 + 1 := IntWalk.i64_in _ (by omega)
      have HSt := Lib.hid (giveG_step m (gen + 1) g)
      obtain ⟨gm, hgm⟩ : ∃ y, y = g (m + 1) := ⟨_, rfl⟩
      rw [← hgm] at hcc HSt
      clear hch har hgm
      by_cases hg0 : gm = 0
      · subst hg0
        go_wp2
        go_roundw
        case rel =>
          refine ⟨m + 1, by omega, by go_num, HCh.out.setCell (p := ⟨X10, m + 1, none⟩) (by simp) _, ?_⟩
          rw [HSt.out]
          exact (HAr.out.set (m + 1) (gen + 1) (by omega)).congr (fun i _ => by simp)
        case measure => simp [intOf]; omega
      · have hgb : (gm == 0) = false := beq_false_of_ne hg0
        go_wp2
        go_roundw
        case rel =>
          refine ⟨m + 1, by omega, by go_num, HCh.out, ?_⟩
          rw [HSt.out]
          refine HAr.out.congr (fun i hi => ?_)
          by_cases e : i = m + 1
          · have h9 := HAr.out.c (m + 1) (by omega)
            rw [hcc] at h9
            have h10 : gm = giveG m (gen + 1) g (m + 1) := by simpa using h9
            rw [if_pos e, if_neg hg0, e]; exact h10
          · rw [if_neg e]
        case measure => simp [intOf]; omega
    · have hle : decide (((m : Int) + 1) ≤ (n : Int)) = false := decide_eq_false (by omega)
      clear hch har
      go_wp2
      obtain rfl : m = n := by omega
      have hne := HO.out.ar
      have hall : Below w.heap.size w wr := (chP_bel HC4.out HO.out.bel HO.out.lo).trans (HCh.out.below _ (fun k hk => by simp at hk; have := HO.out.t10; have := HL4.out.inA; have := HO.out.lo; have := this; rw [hk]; have h1 := HL4.out.inA.1; have h2 := HL4.out.inA.2; omega) (chP_bel HC4.out HO.out.bel HO.out.lo).size)
      exact HQ.out ⟨rfl, ⟨HL4.out.chP (.of HCh.out (S := fun k => k = X10) (by simp)) (fun k e q => by have := q.2; have := HO.out.t10; omega),
        ⟨HA4.out.a9.ch (by decide) HCh.out (by simpa using hne.n9), HAr.out, HA4.out.a11.ch (by decide) HCh.out (by simpa using hne.n10.symm), hne.n9, hne.n10, hne.n11⟩,
        HOn.out, hall, HO.out.lo, HO.out.t9, HO.out.t10, HO.out.t11⟩⟩
end Go.Proofs.Ytnnliimjemmekaa

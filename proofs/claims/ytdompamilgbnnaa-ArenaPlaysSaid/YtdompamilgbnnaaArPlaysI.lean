/-
  The law ArenaPlays: its inner loop.
-/
import Derived.Test.YtdompamilgbnnaaAIK
import Derived.Test.YtdompamilgbnnaaArC
import Derived.Test.YtdompamilgbnnaaArPB
namespace Go.Proofs.Ytdompamilgbnnaa
open Go.RowKit aI

attribute [local go_sem] Oper.semAt_some

set_option maxRecDepth 100000 in
set_option maxHeartbeats 4000000 in
theorem plays_inner {S : Nat} {w w7 : World} {R : Nat} {ys : List (Sl Int)} {a7 al : Option Addr} {c7 cl nh B : Nat} (hR : RS w7 (R + 1) (.slice a7 ys.length c7) ys) (hSt : St S w w7 R ys) (hnh : nh = (sel ys isHeld).length)
    (hO : w7.ownsRow B 33 2 (.slice al nh cl) nh (hcs ys (sel ys isHeld)))
    {u0 u1 u2 u3 u4 u6 u8 u9 u10 u11 u12 u13 u14 u15 u16 u17 u18 u19 u20 u21 u22 u23 u27 u28 u29 u30 u31 u32 u33 u34 u35 u36 u37 u38 u39 u40 u41 u42 u43 u44 u45 u46 u47 u48 u49 u50 u51 u52 u53 u54 u55 u56 u57 u58 u59 u60 u61 u62 u63 u64 u65 u66 u67 u68 u69 u70 u71 u72 u73 u74 u75 u76 u77 u78 u79 u80 u81 u82 u83 u84 u85 u86 u87 u88 u89 u90 u91 u92 u93 u94 u95 u96 u97 u98 u99 u100 u101 u102 u103 u104 u105 u106 u107 u108 u109 u110 u111 u112 u113 u114 u115 u116 u117 u118 u119 u120 u121 u122 u123 u124 u125 u126 u127 u128 u129 u130 u131 u132 u133 u134 u135 u136 u137 u138 u139 u140 u141 u142 u143 u144 u145 u146 u147 u148 u149 u150 u151 u152 u153 u154 u155 u156 u157 u158 u159 u160 u161 u162 u163 u164 u165 u166 u167 u168 u169 u170 u171 u172 u173 u174 u175 u176 u177 u178 u179 u180 u181 u182 u183 u184 u185 u186 u187 u188 u189 u190 u191 u192 u193 u194 u195 u196 u197 u198 u199 u200 u201 u202 u203 u204 u205 u206 u207 u208 u209 u210 u211 u212 u213 u214 u215 u216 u217 u218 u219 u220 u221 u222 u223 u224 u225 u226 u227 u228 u229 u230 u231 u232 u233 u234 u235 u236 u237 u238 u239 u240 u241 u242 u243 u244 u245 u246 u247 u248 u249 u250 u251 u252 u253 u254 u255 u256 u257 u258 u259 u260 : Value} {Q : Exit → Act → World → Prop}
    (hQ : ∀ ⦃x4 x25 x26 x27 x28 x206 x207 x208 x209 x210 x211 x212 x213 x214 x215 x216 x217 x218 x219 x220 x221 x222 x223 x224 x225 x226 x227 x228 x229 x230 x231 x232 x233 x234 x235 x236 x237 x238 x239 x240 x241 x242 x243 x244 x245 x246 x247 x248 x249 x250 x251 x252 x253 x254 x255 x256 x257 x258 x259 : Value⦄ ⦃wq : World⦄, RS wq (R + 1) (.slice a7 ys.length c7) ys → St S w wq R ys → Q .normal { tmps := #[u0, u1, u2, u3, x4, .pointer (some ⟨R, 0, none⟩), u6, .slice a7 ys.length c7, u8, u9, u10, u11, u12, u13, u14, u15, u16, u17, u18, u19, u20, u21, u22, u23, .slice al nh cl, x25, x26, x27, x28, u29, u30, u31, u32, u33, u34, u35, u36, u37, u38, u39, u40, u41, u42, u43, u44, u45, u46, u47, u48, u49, u50, u51, u52, u53, u54, u55, u56, u57, u58, u59, u60, u61, u62, u63, u64, u65, u66, u67, u68, u69, u70, u71, u72, u73, u74, u75, u76, u77, u78, u79, u80, u81, u82, u83, u84, u85, u86, u87, u88, u89, u90, u91, u92, u93, u94, u95, u96, u97, u98, u99, u100, u101, u102, u103, u104, u105, u106, u107, u108, u109, u110, u111, u112, u113, u114, u115, u116, u117, u118, u119, u120, u121, u122, u123, u124, u125, u126, u127, u128, u129, u130, u131, u132, u133, u134, u135, u136, u137, u138, u139, u140, u141, u142, u143, u144, u145, u146, u147, u148, u149, u150, u151, u152, u153, u154, u155, u156, u157, u158, u159, u160, u161, u162, u163, u164, u165, u166, u167, u168, u169, u170, u171, u172, u173, u174, u175, u176, u177, u178, u179, u180, u181, u182, u183, u184, u185, u186, u187, u188, u189, u190, u191, u192, u193, u194, u195, u196, u197, u198, u199, u200, u201, u202, u203, u204, u205, x206, x207, x208, x209, x210, x211, x212, x213, x214, x215, x216, x217, x218, x219, x220, x221, x222, x223, x224, x225, x226, x227, x228, x229, x230, x231, x232, x233, x234, x235, x236, x237, x238, x239, x240, x241, x242, x243, x244, x245, x246, x247, x248, x249, x250, x251, x252, x253, x254, x255, x256, x257, x258, x259, u260], defers := [] } wq) :
    Code.wp Try.prog (codeAt [1, 1, 1, 1, 1, 0, 1, 0, 0, 1, 0, 0, 1, 1, 1, 1, 1, 1, 1, 1, 1] (Try.f3.body.getD .skip)) Q { tmps := #[u0, u1, u2, u3, u4, .pointer (some ⟨R, 0, none⟩), u6, .slice a7 ys.length c7, u8, u9, u10, u11, u12, u13, u14, u15, u16, u17, u18, u19, u20, u21, u22, u23, .slice al nh cl, .int .i64 0, .int .i64 0, u27, u28, u29, u30, u31, u32, u33, u34, u35, u36, u37, u38, u39, u40, u41, u42, u43, u44, u45, u46, u47, u48, u49, u50, u51, u52, u53, u54, u55, u56, u57, u58, u59, u60, u61, u62, u63, u64, u65, u66, u67, u68, u69, u70, u71, u72, u73, u74, u75, u76, u77, u78, u79, u80, u81, u82, u83, u84, u85, u86, u87, u88, u89, u90, u91, u92, u93, u94, u95, u96, u97, u98, u99, u100, u101, u102, u103, u104, u105, u106, u107, u108, u109, u110, u111, u112, u113, u114, u115, u116, u117, u118, u119, u120, u121, u122, u123, u124, u125, u126, u127, u128, u129, u130, u131, u132, u133, u134, u135, u136, u137, u138, u139, u140, u141, u142, u143, u144, u145, u146, u147, u148, u149, u150, u151, u152, u153, u154, u155, u156, u157, u158, u159, u160, u161, u162, u163, u164, u165, u166, u167, u168, u169, u170, u171, u172, u173, u174, u175, u176, u177, u178, u179, u180, u181, u182, u183, u184, u185, u186, u187, u188, u189, u190, u191, u192, u193, u194, u195, u196, u197, u198, u199, u200, u201, u202, u203, u204, u205, u206, u207, u208, u209, u210, u211, u212, u213, u214, u215, u216, u217, u218, u219, u220, u221, u222, u223, u224, u225, u226, u227, u228, u229, u230, u231, u232, u233, u234, u235, u236, u237, u238, u239, u240, u241, u242, u243, u244, u245, u246, u247, u248, u249, u250, u251, u252, u253, u254, u255, u256, u257, u258, u259, u260], defers := [] } w7 := by
  have HR7 := Lib.hid hR
  have H7 := Lib.hid hSt
  have HO7 := Lib.hid hO
  have HNh := Lib.hid hnh
  have HQ := Lib.hid hQ
  have y64 := hSt.a.n2
  have hll := sel_len ys isHeld
  rw [← hnh] at hll
  clear hR hSt hO hnh hQ
  simp only [codeAt, Try.f3, Option.getD_some]
  go_wp2_with fail
  go_loopw [25, 26] (fun t i wq => ∃ j : Nat, j ≤ ys.length ∧ i = .int .i64 (j : Int) ∧ t = .int .i64 ((selTo ys isHeld j).length : Int) ∧ Ch [] w7 wq) (fun _ i _ => ys.length - (intOf i).toNat)
  case atStart => exact ⟨0, Nat.zero_le _, rfl, rfl, Ch.refl _ _⟩
  case round =>
    obtain ⟨j, hj, rfl, rfl, hch⟩ := hrel
    have HCh := Lib.hid hch
    have HRq := Lib.hid (HR7.out.ch hch (by simp))
    have HOq := Lib.hid (own_ch HO7.out hch (by simp))
    have HSq := Lib.hid (H7.out.quiet hch)
    clear hch
    by_cases hlt2 : j < ys.length
    · obtain ⟨G, cp, hv, _, _, c0, c1, c2, _⟩ := HRq.out.cells hlt2
      simp only [Value.slice.injEq, true_and] at hv
      obtain ⟨rfl, rfl⟩ := hv
      have hb0 : (0 : Int) ≤ (j : Int) := by omega
      have hb1 : (j : Int) < (ys.length : Int) := by omega
      have ht : ((j : Int)).toNat = j := rfl
      cases hh : (at0 ys j).held with
      | false =>
        have HT := Lib.hid (selTo_no ys isHeld j hh)
        rw [hh] at c1
        clear hh
        go_wp2_with fail
        go_roundw
        case rel => exact ⟨j + 1, by omega, by go_num, by rw [HT.out], HCh.out⟩
        case measure => simp [intOf]; omega
      | true =>
        have HT := Lib.hid (selTo_yes ys isHeld j hh)
        have hat := sel_at ys isHeld j hlt2 hh
        obtain ⟨p, hp⟩ : ∃ p, p = (selTo ys isHeld j).length := ⟨_, rfl⟩
        rw [← hp] at hat ⊢
        have hpl : p < nh := by rw [HNh.out]; exact (List.getElem?_eq_some_iff.1 hat).1
        obtain ⟨k0, k1⟩ := hcs_at ys (sel ys isHeld) p j hat
        rcases own_cells HOq.out (p * 2) (by omega) with ⟨G2, rfl, hG2, hcell⟩
        have d0 := (hcell (p * 2) (by omega)).trans k0
        have d1 := (hcell (p * 2 + 1) (by omega)).trans k1
        have HP := Lib.hid hp
        have hgt := fun m : Nat => get_st (HSq.out.quiet ((Ch.refl [] _).drewN m)) (j : Int) ((at0 ys j).gen : Int)
        have hE0 : findE ys (j : Int) ((at0 ys j).gen : Int) = 0 := findE_ok hlt2 hh rfl
        have hX0 : getX ys (j : Int) ((at0 ys j).gen : Int) = (at0 ys j).x := by unfold getX; rw [if_pos hE0, Int.toNat_natCast]
        simp only [hE0, hX0] at hgt
        rw [hh] at c1
        obtain ⟨ge, hge⟩ : ∃ ge, ge = (at0 ys j).gen := ⟨_, rfl⟩
        obtain ⟨z, hz⟩ : ∃ z, z = (at0 ys j).x := ⟨_, rfl⟩
        simp only [← hge] at c0 d1 hgt
        simp only [← hz] at c2 hgt
        have HGt := Lib.hid hgt
        have HZ := Lib.hid hz
        have m1 : ((j : Int) != (j : Int)) = false := by simp
        have m2 : ((ge : Int) != (ge : Int)) = false := by simp
        have m3 : (z != z) = false := by simp
        have p0 : (0 : Int) ≤ (p : Int) := by omega
        have p1 : (p : Int) < (nh : Int) := by omega
        have pt : ((p : Int)).toNat = p := rfl
        have HL2 := Lib.hid hlt2
        clear hh hat k0 k1 hcell hp hgt hE0 hX0 hge hz
        go_wp2_with fail
        go_quiet (fail)
        go_wp2_with fail
        with_reducible refine (HGt.out _).mono ?_
        rintro e w8 ⟨rfl, h8, hc8⟩
        have hcc := ((Ch.refl [] _).drewN _).trans hc8
        have c2 := (hcc.cell (p := ⟨G, j * 3 + 2, none⟩) (cell_lt c2) (by simp)).trans c2
        have HC8 := Lib.hid (HCh.out.trans hcc)
        clear h8 hc8 hcc
        go_wp2_with fail
        go_roundw
        case rel => exact ⟨j + 1, by have := HL2.out; omega, by go_num, by rw [HT.out, List.length_append, ← HP.out]; go_num, HC8.out⟩
        case measure => have := HL2.out; simp [intOf]; omega
    · obtain rfl : j = ys.length := by omega
      have hdj : decide ((ys.length : Int) < (ys.length : Int)) = false := by simp
      go_wp2_with fail
      exact HQ.out HRq.out HSq.out
end Go.Proofs.Ytdompamilgbnnaa

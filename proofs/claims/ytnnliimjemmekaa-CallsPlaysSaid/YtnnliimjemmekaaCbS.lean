/-
  CallsPlays: a part (sw).
-/
import Derived.Test.YtnnliimjemmekaaCbP
import Derived.Test.YtnnliimjemmekaaCbQ
import Derived.Test.YtnnliimjemmekaaCbR
import Derived.Deep.RegionHeld3
import Derived.Deep.CutBlock
namespace Go.Proofs.Ytnnliimjemmekaa
open Go.RowKit Go.Maps Go.BigFrame
open rC (Th flat)

attribute [local go_sem] Oper.semAt_some

set_option maxRecDepth 100000 in
set_option maxHeartbeats 4000000 in
theorem plays_sw {w w3 : World} {base top A n b : Nat} {last : Int} {M : List Cb} {v : Value} {a : Nat} {K C Gn : Int} {aI : Option Addr} {m cI : Nat} {zs : List Int} {U : Int} (hP : PS w w3 base top A n b last M v) (hA : Qa w3 a K C Gn (.slice aI m cI)) (ha : top ≤ a ∧ a ≠ b) (hz : IntsAt w aI zs) (hm : m = zs.length) (hmc : m ≤ cI) (hcm : cI ≤ 9223372036854775807) (_ : 0 ≤ U)
    {u0 u1 u2 u3 u4 u6 u8 u10 u11 u12 u13 u14 u15 u16 u17 u18 u19 u20 u21 u22 u23 u24 u25 u26 u27 u28 u29 u30 u31 u32 u33 u34 u35 u36 u37 u38 u39 u40 u41 u42 u43 u44 u45 u46 u47 u48 u49 u50 u51 u52 u53 u55 u56 u57 u58 u59 u60 u61 u62 u63 u64 u65 u66 u67 u68 u69 u70 u71 u72 u73 u74 u75 u76 u77 u78 u79 u80 u81 u82 u83 u84 u85 u86 u87 u88 u89 u90 u91 u92 u93 u94 u95 u96 u97 u98 u99 u100 u101 u102 u103 u104 u105 u106 u107 u108 u109 u110 u111 u112 u113 u114 u115 u116 u117 u118 u119 u120 u121 u122 u123 u124 u125 u126 u127 u128 u129 u130 u131 u132 u133 u134 u135 u136 u137 u138 u139 u140 u141 u142 u143 u144 u145 u146 u147 u148 u149 u150 u151 u152 u153 u154 u155 u156 u157 u158 u159 u160 u161 u162 u163 u164 u165 u166 u167 u168 u169 u170 u171 u172 u173 u174 u175 u176 u177 u178 u179 u180 u181 u182 u183 u184 u185 u186 u187 u188 u189 u190 u191 u192 u193 u194 u195 u196 u197 u198 u199 u200 u201 u202 u203 u204 u205 u206 u207 u208 : Value} {Q : Exit → Act → World → Prop}
    (hQ : ∀ ⦃x4 x10 x11 x12 x13 x14 x15 x16 x54 x55 x56 x57 x58 x59 x60 x61 x62 x63 x64 x65 x66 x67 x68 x69 x70 x71 x72 x73 x74 x75 x76 x77 x78 x79 x80 x81 x82 x83 x84 x85 x86 x87 x88 x89 x90 x91 x92 x93 x94 x95 x96 x97 x98 x99 x100 x101 x102 x103 x104 x105 x106 x107 x108 x109 x110 : Value⦄ ⦃wq : World⦄, (∃ last' M' v', PS w wq base top A n b last' M' v') → Q .normal { tmps := #[u0, u1, u2, u3, x4, .pointer (some ⟨A, 0, none⟩), u6, .pointer (some ⟨b, 0, none⟩), u8, .pointer (some ⟨a, 0, none⟩), x10, x11, x12, x13, x14, x15, x16, u17, u18, u19, u20, u21, u22, u23, u24, u25, u26, u27, u28, u29, u30, u31, u32, u33, u34, u35, u36, u37, u38, u39, u40, u41, u42, u43, u44, u45, u46, u47, u48, u49, u50, u51, u52, u53, x54, x55, x56, x57, x58, x59, x60, x61, x62, x63, x64, x65, x66, x67, x68, x69, x70, x71, x72, x73, x74, x75, x76, x77, x78, x79, x80, x81, x82, x83, x84, x85, x86, x87, x88, x89, x90, x91, x92, x93, x94, x95, x96, x97, x98, x99, x100, x101, x102, x103, x104, x105, x106, x107, x108, x109, x110, u111, u112, u113, u114, u115, u116, u117, u118, u119, u120, u121, u122, u123, u124, u125, u126, u127, u128, u129, u130, u131, u132, u133, u134, u135, u136, u137, u138, u139, u140, u141, u142, u143, u144, u145, u146, u147, u148, u149, u150, u151, u152, u153, u154, u155, u156, u157, u158, u159, u160, u161, u162, u163, u164, u165, u166, u167, u168, u169, u170, u171, u172, u173, u174, u175, u176, u177, u178, u179, u180, u181, u182, u183, u184, u185, u186, u187, u188, u189, u190, u191, u192, u193, u194, u195, u196, u197, u198, u199, u200, u201, u202, u203, u204, u205, u206, u207, u208], defers := [] } wq) :
    Code.wp Try.prog (codeOf [1, 1, 1, 1, 1, 0, 1, 1, 1, 1, 0, 1, 1, 0, 1, 1] (Try.f3.body.getD .skip)) Q { tmps := #[u0, u1, u2, u3, u4, .pointer (some ⟨A, 0, none⟩), u6, .pointer (some ⟨b, 0, none⟩), u8, .pointer (some ⟨a, 0, none⟩), u10, u11, u12, u13, u14, u15, u16, u17, u18, u19, u20, u21, u22, u23, u24, u25, u26, u27, u28, u29, u30, u31, u32, u33, u34, u35, u36, u37, u38, u39, u40, u41, u42, u43, u44, u45, u46, u47, u48, u49, u50, u51, u52, u53, .int .u64 (U % 3), u55, u56, u57, u58, u59, u60, u61, u62, u63, u64, u65, u66, u67, u68, u69, u70, u71, u72, u73, u74, u75, u76, u77, u78, u79, u80, u81, u82, u83, u84, u85, u86, u87, u88, u89, u90, u91, u92, u93, u94, u95, u96, u97, u98, u99, u100, u101, u102, u103, u104, u105, u106, u107, u108, u109, u110, u111, u112, u113, u114, u115, u116, u117, u118, u119, u120, u121, u122, u123, u124, u125, u126, u127, u128, u129, u130, u131, u132, u133, u134, u135, u136, u137, u138, u139, u140, u141, u142, u143, u144, u145, u146, u147, u148, u149, u150, u151, u152, u153, u154, u155, u156, u157, u158, u159, u160, u161, u162, u163, u164, u165, u166, u167, u168, u169, u170, u171, u172, u173, u174, u175, u176, u177, u178, u179, u180, u181, u182, u183, u184, u185, u186, u187, u188, u189, u190, u191, u192, u193, u194, u195, u196, u197, u198, u199, u200, u201, u202, u203, u204, u205, u206, u207, u208], defers := [] } w3 := by
  have HQ := Lib.hid hQ
  have HP := Lib.hid hP
  have HA := Lib.hid hA
  have HAx := Lib.hid ha
  have HZ := Lib.hid hz
  have HM := Lib.hid hm
  clear hQ hP hA ha hz hm
  simp only [codeOf, Try.f3, Option.getD_some]
  rcases (show U % 3 = 0 ∨ U % 3 = 1 ∨ U % 3 = 2 by omega) with h3 | h3 | h3
  · rw [h3]
    go_upto_if 70 with (fail)
    refine wp_cond (t := true) rfl ?_
    simp only [if_true]
    refine plays_put HP.out HA.out HAx.out HZ.out HM.out hmc hcm ?_
    intro x4 x10 x11 x12 x72 x73 x74 x75 x76 x77 x78 x79 x80 x81 x82 x83 x84 x85 x86 x87 x88 x89 x90 x91 x92 x93 x94 wq hpq
    exact HQ.out hpq
  · rw [h3]
    go_upto_if 70 with (fail)
    refine wp_cond (t := false) rfl ?_
    simp only [Bool.false_eq_true, if_false]
    go_upto_if 95 with (fail)
    refine wp_cond (t := true) rfl ?_
    simp only [if_true]
    refine plays_close HP.out HA.out HAx.out HZ.out HM.out hmc hcm ?_
    intro x4 x13 x14 x97 x98 x99 x100 x101 x102 x103 x104 x105 x106 x107 x108 x109 x110 wq hpq
    exact HQ.out hpq
  · rw [h3]
    go_upto_if 70 with (fail)
    refine wp_cond (t := false) rfl ?_
    simp only [Bool.false_eq_true, if_false]
    go_upto_if 95 with (fail)
    refine wp_cond (t := false) rfl ?_
    simp only [Bool.false_eq_true, if_false]
    refine plays_done HP.out HA.out HAx.out HZ.out HM.out hmc hcm ?_
    intro x4 x15 x16 x55 x56 x57 x58 x59 x60 x61 x62 x63 x64 x65 x66 x67 x68 x69 wq hpq
    exact HQ.out hpq
end Go.Proofs.Ytnnliimjemmekaa

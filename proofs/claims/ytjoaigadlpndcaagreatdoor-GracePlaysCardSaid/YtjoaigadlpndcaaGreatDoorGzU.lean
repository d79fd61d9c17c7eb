/-
  GracePlays: a part (sw).
-/
import Derived.Test.YtjoaigadlpndcaaGreatDoorGzP
import Derived.Test.YtjoaigadlpndcaaGreatDoorGzQ
import Derived.Test.YtjoaigadlpndcaaGreatDoorGzR
import Derived.Test.YtjoaigadlpndcaaGreatDoorGzS
import Derived.Test.YtjoaigadlpndcaaGreatDoorGzT
import Derived.Deep.RegionHeld3
import Derived.Deep.CutBlock
namespace Go.Proofs.YtjoaigadlpndcaaGreatDoor
open Go.RowKit Go.Shelf Go.BigFrame
open rC (Th)

attribute [local go_sem] Oper.semAt_some

set_option maxRecDepth 100000 in
set_option maxHeartbeats 4000000 in
theorem plays_sw {w w3 : World} {base a L n b c k q : Nat} {s : Sl3} {z : Az} {K R C Id : Int} {U : Int} (hP : QR w w3 base a L n b c k s z q K R C Id) (hk : k < 50) (_ : 0 ≤ U)
    {u0 u1 u2 u3 u4 u5 u6 u8 u10 u12 u13 u14 u15 u16 u17 u18 u19 u20 u21 u22 u23 u24 u25 u26 u27 u28 u29 u30 u31 u32 u33 u34 u35 u36 u37 u38 u39 u40 u41 u42 u43 u44 u45 u46 u47 u48 u49 u50 u51 u52 u53 u54 u55 u57 u58 u59 u60 u61 u62 u63 u64 u65 u66 u67 u68 u69 u70 u71 u72 u73 u74 u75 u76 u77 u78 u79 u80 u81 u82 u83 u84 u85 u86 u87 u88 u89 u90 u91 u92 u93 u94 u95 u96 u97 u98 u99 u100 u101 u102 u103 u104 u105 u106 u107 u108 u109 u110 u111 u112 u113 u114 u115 u116 u117 u118 u119 u120 u121 u122 u123 u124 u125 u126 u127 u128 u129 u130 u131 u132 u133 u134 u135 u136 u137 u138 u139 u140 u141 u142 u143 u144 u145 u146 u147 u148 u149 u150 u151 u152 u153 u154 u155 u156 u157 u158 u159 u160 u161 u162 u163 u164 u165 u166 u167 u168 u169 u170 u171 u172 u173 u174 u175 u176 u177 u178 u179 u180 u181 u182 u183 u184 u185 u186 u187 u188 u189 u190 u191 u192 u193 u194 u195 u196 u197 u198 u199 u200 u201 u202 u203 u204 u205 u206 u207 u208 u209 u210 u211 u212 u213 u214 u215 u216 u217 u218 u219 : Value} {Q : Exit → Act → World → Prop}
    (hQ : ∀ ⦃x6 x12 x13 x14 x15 x16 x17 x18 x19 x20 x21 x22 x23 x24 x56 x57 x58 x59 x60 x61 x62 x63 x64 x65 x66 x67 x68 x69 x70 x71 x72 x73 x74 x75 x76 x77 x78 x79 x80 x81 x82 x83 x84 x85 x86 x87 x88 x89 x90 x91 x92 x93 x94 x95 x96 x97 x98 x99 x100 x101 x102 x103 x104 x105 x106 x107 x108 x109 x110 x111 x112 x113 x114 x115 x116 x117 x118 x119 x120 x121 x122 x123 x124 x125 x126 x127 x128 x129 x130 x131 x132 x133 x134 x135 x136 x137 x138 x139 x140 x141 x142 x143 x144 x145 x146 x147 x148 : Value⦄ ⦃wq : World⦄, (∃ c' s' z', QR w wq base a L n b c' (k + 1) s' z' q K R C Id) → Q .normal { tmps := #[u0, u1, u2, u3, u4, u5, x6, .pointer (some ⟨a, 0, none⟩), u8, .pointer (some ⟨b, 0, none⟩), u10, .pointer (some ⟨q, 0, none⟩), x12, x13, x14, x15, x16, x17, x18, x19, x20, x21, x22, x23, x24, u25, u26, u27, u28, u29, u30, u31, u32, u33, u34, u35, u36, u37, u38, u39, u40, u41, u42, u43, u44, u45, u46, u47, u48, u49, u50, u51, u52, u53, u54, u55, x56, x57, x58, x59, x60, x61, x62, x63, x64, x65, x66, x67, x68, x69, x70, x71, x72, x73, x74, x75, x76, x77, x78, x79, x80, x81, x82, x83, x84, x85, x86, x87, x88, x89, x90, x91, x92, x93, x94, x95, x96, x97, x98, x99, x100, x101, x102, x103, x104, x105, x106, x107, x108, x109, x110, x111, x112, x113, x114, x115, x116, x117, x118, x119, x120, x121, x122, x123, x124, x125, x126, x127, x128, x129, x130, x131, x132, x133, x134, x135, x136, x137, x138, x139, x140, x141, x142, x143, x144, x145, x146, x147, x148, u149, u150, u151, u152, u153, u154, u155, u156, u157, u158, u159, u160, u161, u162, u163, u164, u165, u166, u167, u168, u169, u170, u171, u172, u173, u174, u175, u176, u177, u178, u179, u180, u181, u182, u183, u184, u185, u186, u187, u188, u189, u190, u191, u192, u193, u194, u195, u196, u197, u198, u199, u200, u201, u202, u203, u204, u205, u206, u207, u208, u209, u210, u211, u212, u213, u214, u215, u216, u217, u218, u219], defers := [] } wq) :
    Code.wp Tryz.prog (codeOf [1, 1, 1, 1, 1, 0, 1, 1, 1, 1, 0, 1, 1, 0, 1, 1] (Tryz.f3.body.getD .skip)) Q { tmps := #[u0, u1, u2, u3, u4, u5, u6, .pointer (some ⟨a, 0, none⟩), u8, .pointer (some ⟨b, 0, none⟩), u10, .pointer (some ⟨q, 0, none⟩), u12, u13, u14, u15, u16, u17, u18, u19, u20, u21, u22, u23, u24, u25, u26, u27, u28, u29, u30, u31, u32, u33, u34, u35, u36, u37, u38, u39, u40, u41, u42, u43, u44, u45, u46, u47, u48, u49, u50, u51, u52, u53, u54, u55, .int .u64 (U % 6), u57, u58, u59, u60, u61, u62, u63, u64, u65, u66, u67, u68, u69, u70, u71, u72, u73, u74, u75, u76, u77, u78, u79, u80, u81, u82, u83, u84, u85, u86, u87, u88, u89, u90, u91, u92, u93, u94, u95, u96, u97, u98, u99, u100, u101, u102, u103, u104, u105, u106, u107, u108, u109, u110, u111, u112, u113, u114, u115, u116, u117, u118, u119, u120, u121, u122, u123, u124, u125, u126, u127, u128, u129, u130, u131, u132, u133, u134, u135, u136, u137, u138, u139, u140, u141, u142, u143, u144, u145, u146, u147, u148, u149, u150, u151, u152, u153, u154, u155, u156, u157, u158, u159, u160, u161, u162, u163, u164, u165, u166, u167, u168, u169, u170, u171, u172, u173, u174, u175, u176, u177, u178, u179, u180, u181, u182, u183, u184, u185, u186, u187, u188, u189, u190, u191, u192, u193, u194, u195, u196, u197, u198, u199, u200, u201, u202, u203, u204, u205, u206, u207, u208, u209, u210, u211, u212, u213, u214, u215, u216, u217, u218, u219], defers := [] } w3 := by
  have HQ := Lib.hid hQ
  have HP := Lib.hid hP
  have HK := Lib.hid hk
  clear hQ hP hk
  simp only [codeOf, Tryz.f3, Option.getD_some]
  rcases (show U % 6 = 0 ∨ U % 6 = 1 ∨ U % 6 = 2 ∨ U % 6 = 3 ∨ U % 6 = 4 ∨ U % 6 = 5 by omega) with h6 | h6 | h6 | h6 | h6 | h6
  · rw [h6]
    go_upto_if 68 with (fail)
    refine wp_cond (t := true) rfl ?_
    simp only [if_true]
    refine plays_enter HP.out HK.out ?_
    intro x6 x12 x13 x70 x71 x72 x73 x74 x75 x76 x77 x78 x79 x80 x81 x82 x83 x84 wq hpq
    exact HQ.out hpq
  · rw [h6]
    go_upto_if 68 with (fail)
    refine wp_cond (t := false) rfl ?_
    simp only [Bool.false_eq_true, if_false]
    go_upto_if 85 with (fail)
    refine wp_cond (t := true) rfl ?_
    simp only [if_true]
    refine plays_exit HP.out HK.out ?_
    intro x6 x14 x15 x16 x17 x18 x87 x88 x89 x90 x91 x92 x93 x94 x95 x96 x97 x98 x99 x100 x101 x102 x103 x104 x105 x106 x107 x108 x109 x110 wq hpq
    exact HQ.out hpq
  · rw [h6]
    go_upto_if 68 with (fail)
    refine wp_cond (t := false) rfl ?_
    simp only [Bool.false_eq_true, if_false]
    go_upto_if 85 with (fail)
    refine wp_cond (t := false) rfl ?_
    simp only [Bool.false_eq_true, if_false]
    go_upto_if 111 with (fail)
    refine wp_cond (t := true) rfl ?_
    simp only [if_true]
    refine plays_call HP.out HK.out ?_
    intro x6 x19 x20 x113 x114 x115 x116 x117 x118 x119 x120 x121 x122 x123 x124 x125 x126 x127 x128 x129 x130 x131 x132 x133 x134 x135 x136 wq hpq
    exact HQ.out hpq
  · rw [h6]
    go_upto_if 68 with (fail)
    refine wp_cond (t := false) rfl ?_
    simp only [Bool.false_eq_true, if_false]
    go_upto_if 85 with (fail)
    refine wp_cond (t := false) rfl ?_
    simp only [Bool.false_eq_true, if_false]
    go_upto_if 111 with (fail)
    refine wp_cond (t := false) rfl ?_
    simp only [Bool.false_eq_true, if_false]
    go_upto_if 137 with (fail)
    refine wp_cond (t := true) rfl ?_
    simp only [if_true]
    refine plays_ticket HP.out HK.out ?_
    intro x6 x21 x22 x139 x140 x141 x142 x143 x144 x145 x146 x147 x148 wq hpq
    exact HQ.out hpq
  · rw [h6]
    go_upto_if 68 with (fail)
    refine wp_cond (t := false) rfl ?_
    simp only [Bool.false_eq_true, if_false]
    go_upto_if 85 with (fail)
    refine wp_cond (t := false) rfl ?_
    simp only [Bool.false_eq_true, if_false]
    go_upto_if 111 with (fail)
    refine wp_cond (t := false) rfl ?_
    simp only [Bool.false_eq_true, if_false]
    go_upto_if 137 with (fail)
    refine wp_cond (t := false) rfl ?_
    simp only [Bool.false_eq_true, if_false]
    refine plays_poll HP.out HK.out ?_
    intro x6 x23 x24 x57 x58 x59 x60 x61 x62 x63 x64 x65 x66 x67 wq hpq
    exact HQ.out hpq
  · rw [h6]
    go_upto_if 68 with (fail)
    refine wp_cond (t := false) rfl ?_
    simp only [Bool.false_eq_true, if_false]
    go_upto_if 85 with (fail)
    refine wp_cond (t := false) rfl ?_
    simp only [Bool.false_eq_true, if_false]
    go_upto_if 111 with (fail)
    refine wp_cond (t := false) rfl ?_
    simp only [Bool.false_eq_true, if_false]
    go_upto_if 137 with (fail)
    refine wp_cond (t := false) rfl ?_
    simp only [Bool.false_eq_true, if_false]
    refine plays_poll HP.out HK.out ?_
    intro x6 x23 x24 x57 x58 x59 x60 x61 x62 x63 x64 x65 x66 x67 wq hpq
    exact HQ.out hpq
end Go.Proofs.YtjoaigadlpndcaaGreatDoor

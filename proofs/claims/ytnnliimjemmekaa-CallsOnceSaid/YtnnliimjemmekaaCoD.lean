/-
  CallsOnce: a part (x15).
-/
import Derived.Test.YtnnliimjemmekaaCoC
import Derived.Test.YtnnliimjemmekaaCbU
import Derived.Deep.RegionHeld3
import Derived.Deep.CutBlock
namespace Go.Proofs.Ytnnliimjemmekaa
open Go.RowKit Go.Maps Go.BigFrame

attribute [local go_sem] Oper.semAt_some

set_option maxRecDepth 100000 in
set_option maxHeartbeats 4000000 in
theorem once_x15 {w w3 : World} {base top A X9 X10 X11 n : Nat} {gen : Int} {C : Nat → Nat} {g : Nat → Int} {t : Nat → Bool} {la : Nat → Int} {a1 : Option Addr} {len1 cap1 : Nat} {z1 : Nat → Bool} {i : Nat} (hO : OS w w3 base top A X9 X10 X11 n gen C g t la) (hn : n ≤ 60) (hg : gen < (n : Int)) (hz : BoolsAt w3 a1 len1 z1)
    {u0 u2 u3 u4 u5 u6 u8 u9 u11 u15 u16 u17 u18 u19 u20 u21 u22 u23 u24 u25 u26 u27 u28 u29 u30 u31 u32 u33 u34 u35 u36 u37 u38 u39 u40 u41 u42 u43 u44 u45 u46 u47 u48 u49 u50 u51 u52 u53 u54 u55 u56 u57 u58 u59 u60 u61 u62 u63 u64 u65 u66 u67 u68 u69 u70 u71 u72 u73 u74 u75 u76 u77 u78 u79 u80 u81 u82 u83 u84 u85 u86 u87 u88 u89 u90 u91 u92 u93 u94 u95 u96 u97 u98 u99 u100 u101 u102 u103 u104 u105 u106 u107 u108 u109 u110 u111 u112 u113 u114 u115 u116 u117 u118 u119 u120 u121 u122 u123 u124 u125 u126 u127 u128 u129 u130 u131 u132 u133 u134 u135 u136 u137 u138 u139 u140 u141 u142 u143 u144 u145 u146 u147 u148 u149 u150 u151 u152 u153 u154 u155 u156 u157 u158 u159 u160 u161 u162 u163 u164 u165 u166 u167 u168 u169 u170 u171 u172 u173 u174 u175 u176 u177 u178 u179 u180 : Value} {Q : Exit → Act → World → Prop}
    (hQ : ∀ ⦃x6 x12 x16 x56 x57 x58 x59 x60 x61 x62 x63 x64 x65 x66 x67 x68 x69 x70 x71 x72 x73 x74 x75 x76 x77 x78 x79 x80 x81 x82 : Value⦄ ⦃wq : World⦄, (∃ gen' g', x12 = .int .i64 gen' ∧ OS w wq base top A X9 X10 X11 n gen' C g' t la) → Q .normal { tmps := #[u0, .slice a1 len1 cap1, u2, u3, u4, u5, x6, .pointer (some ⟨A, 0, none⟩), u8, u9, .pointer (some ⟨X10, 0, none⟩), u11, x12, .int .i64 (n : Int), .int .i64 (i : Int), u15, x16, u17, u18, u19, u20, u21, u22, u23, u24, u25, u26, u27, u28, u29, u30, u31, u32, u33, u34, u35, u36, u37, u38, u39, u40, u41, u42, u43, u44, u45, u46, u47, u48, u49, u50, u51, u52, u53, u54, u55, x56, x57, x58, x59, x60, x61, x62, x63, x64, x65, x66, x67, x68, x69, x70, x71, x72, x73, x74, x75, x76, x77, x78, x79, x80, x81, x82, u83, u84, u85, u86, u87, u88, u89, u90, u91, u92, u93, u94, u95, u96, u97, u98, u99, u100, u101, u102, u103, u104, u105, u106, u107, u108, u109, u110, u111, u112, u113, u114, u115, u116, u117, u118, u119, u120, u121, u122, u123, u124, u125, u126, u127, u128, u129, u130, u131, u132, u133, u134, u135, u136, u137, u138, u139, u140, u141, u142, u143, u144, u145, u146, u147, u148, u149, u150, u151, u152, u153, u154, u155, u156, u157, u158, u159, u160, u161, u162, u163, u164, u165, u166, u167, u168, u169, u170, u171, u172, u173, u174, u175, u176, u177, u178, u179, u180], defers := [] } wq) :
    Code.wp Try.prog (codeOf [1, 1, 1, 1, 1, 1, 1, 0, 1, 1, 1, 1, 0, 1, 1, 1, 1, 0] (Try.f4.body.getD .skip)) Q { tmps := #[u0, .slice a1 len1 cap1, u2, u3, u4, u5, u6, .pointer (some ⟨A, 0, none⟩), u8, u9, .pointer (some ⟨X10, 0, none⟩), u11, .int .i64 gen, .int .i64 (n : Int), .int .i64 (i : Int), u15, u16, u17, u18, u19, u20, u21, u22, u23, u24, u25, u26, u27, u28, u29, u30, u31, u32, u33, u34, u35, u36, u37, u38, u39, u40, u41, u42, u43, u44, u45, u46, u47, u48, u49, u50, u51, u52, u53, u54, u55, u56, u57, u58, u59, u60, u61, u62, u63, u64, u65, u66, u67, u68, u69, u70, u71, u72, u73, u74, u75, u76, u77, u78, u79, u80, u81, u82, u83, u84, u85, u86, u87, u88, u89, u90, u91, u92, u93, u94, u95, u96, u97, u98, u99, u100, u101, u102, u103, u104, u105, u106, u107, u108, u109, u110, u111, u112, u113, u114, u115, u116, u117, u118, u119, u120, u121, u122, u123, u124, u125, u126, u127, u128, u129, u130, u131, u132, u133, u134, u135, u136, u137, u138, u139, u140, u141, u142, u143, u144, u145, u146, u147, u148, u149, u150, u151, u152, u153, u154, u155, u156, u157, u158, u159, u160, u161, u162, u163, u164, u165, u166, u167, u168, u169, u170, u171, u172, u173, u174, u175, u176, u177, u178, u179, u180], defers := [] } w3 := by
  have HQ := Lib.hid hQ
  have HO := Lib.hid hO
  have HZ := Lib.hid hz
  clear hQ hO hz
  simp only [codeOf, Try.f4, Option.getD_some]
  by_cases hi : i < len1
  · rcases HZ.out with h0 | ⟨b, off, rfl, hb⟩
    · exfalso; omega
    have hc := hb i hi
    have hlt : (i : Int) < (len1 : Int) := by omega
    have hi0 : (0 : Int) ≤ (i : Int) := by omega
    clear hb
    cases hz : z1 i with
    | true =>
      rw [hz] at hc
      go_upto_if 65 with (fail)
      refine wp_cond (t := true) rfl ?_
      simp only [if_true]
      refine once_cl HO.out hn hg ?_
      intro x6 x12 x16 x66 x67 x68 x69 x70 x71 x72 x73 x74 x75 x76 x77 x78 x79 x80 x81 x82 wq ⟨hx, hoq⟩
      exact HQ.out ⟨_, _, hx, hoq⟩
    | false =>
      rw [hz] at hc
      go_wp2
      exact HQ.out ⟨_, _, rfl, HO.out⟩
  · have hlt : decide ((i : Int) < (len1 : Int)) = false := decide_eq_false (by omega)
    go_wp2
    exact HQ.out ⟨_, _, rfl, HO.out⟩
end Go.Proofs.Ytnnliimjemmekaa

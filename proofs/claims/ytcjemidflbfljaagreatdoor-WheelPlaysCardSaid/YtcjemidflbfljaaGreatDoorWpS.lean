/-
  WheelPlays: the calls.
-/
import Derived.Test.YtcjemidflbfljaaGreatDoorWpW
import Derived.Test.YtcjemidflbfljaaGreatDoorWpX
import Derived.Test.YtcjemidflbfljaaGreatDoorWpY
import Derived.Deep.RegionHeld3
namespace Go.Proofs.YtcjemidflbfljaaGreatDoor
open Go.RowKit Go.Maps Go.BigFrame

attribute [local go_sem] Oper.semAt_some

set_option maxRecDepth 100000 in
set_option maxHeartbeats 4000000 in
theorem plays_sw {w w3 : World} {B M A : Nat} {c : Nat → Value} {now : Int} {puts : Nat} {L Lu : List Tm} {v u : Value} {id at' : Int} {U : Int} (hT : Mk.Tab w) (hP : PP w w3 B M A 3 c now puts L now v L u Lu) (hc1 : c 1 = .int .i64 id) (hc2 : c 2 = .int .u64 at') (ha : Wd at') (hid : wf64 id) (hp : puts < 4611686018427387904) (hU0 : 0 ≤ U)
    {u0 u1 u2 u3 u4 u7 u9 u10 u11 u12 u13 u14 u15 u16 u17 u18 u19 u20 u21 u22 u23 u24 u25 u26 u27 u28 u29 u30 u31 u32 u33 u34 u35 u36 u37 u38 u39 u40 u41 u42 u43 u44 u46 u47 u48 u49 u50 u51 u52 u53 u54 u55 u56 u57 u58 u59 u60 u61 u62 u63 u64 u65 u66 u67 u68 u69 u70 u71 u72 u73 u74 u75 u76 u77 u78 u79 u80 u81 u82 u83 u84 u85 u86 u87 u88 u89 u90 u91 u92 u93 u94 u95 u96 u97 u98 u99 u100 u101 u102 u103 u104 u105 u106 u107 u108 u109 u110 u111 u112 u113 u114 u115 u116 u117 u118 u119 u120 u121 u122 u123 u124 u125 u126 u127 u128 u129 u130 u131 u132 u133 u134 u135 u136 u137 u138 u139 u140 u141 u142 u143 u144 u145 u146 u147 u148 u149 u150 u151 u152 u153 u154 u155 u156 u157 u158 u159 u160 u161 u162 u163 u164 u165 u166 u167 u168 u169 u170 u171 u172 u173 u174 u175 u176 u177 u178 u179 u180 u181 u182 u183 u184 u185 u186 u187 u188 u189 u190 u191 u192 u193 u194 u195 u196 u197 u198 u199 u200 u201 u202 u203 u204 u205 u206 : Value} {Q : Exit → Act → World → Prop}
    (hQ : ∀ ⦃x4 x9 x10 x11 x12 x13 x14 x15 x16 x17 x18 x45 x46 x47 x48 x49 x50 x51 x52 x53 x54 x55 x56 x57 x58 x59 x60 x61 x62 x63 x64 x65 x66 x67 x68 x69 x70 x71 x72 x73 x74 x75 x76 x77 x78 x79 x80 x81 x82 x83 x84 x85 x86 x87 x88 x89 x90 x91 x92 x93 x94 x95 x96 x97 x98 x99 x100 x101 x102 x103 x104 x105 x106 x107 x108 x109 x110 x111 x112 x113 x114 x115 x116 x117 x118 x119 x120 x121 x122 : Value⦄ ⦃wq : World⦄, (∃ now' puts' L' v', puts' ≤ puts + 1 ∧ PP w wq B M A 3 c now' puts' L' now' v' L' v' L') → w3.heap.size ≤ wq.heap.size → Q .normal { tmps := #[u0, u1, u2, u3, x4, .pointer (some ⟨B, 0, none⟩), .pointer (some ⟨M, 0, none⟩), u7, .pointer (some ⟨A, 0, none⟩), x9, x10, x11, x12, x13, x14, x15, x16, x17, x18, u19, u20, u21, u22, u23, u24, u25, u26, u27, u28, u29, u30, u31, u32, u33, u34, u35, u36, u37, u38, u39, u40, u41, u42, u43, u44, x45, x46, x47, x48, x49, x50, x51, x52, x53, x54, x55, x56, x57, x58, x59, x60, x61, x62, x63, x64, x65, x66, x67, x68, x69, x70, x71, x72, x73, x74, x75, x76, x77, x78, x79, x80, x81, x82, x83, x84, x85, x86, x87, x88, x89, x90, x91, x92, x93, x94, x95, x96, x97, x98, x99, x100, x101, x102, x103, x104, x105, x106, x107, x108, x109, x110, x111, x112, x113, x114, x115, x116, x117, x118, x119, x120, x121, x122, u123, u124, u125, u126, u127, u128, u129, u130, u131, u132, u133, u134, u135, u136, u137, u138, u139, u140, u141, u142, u143, u144, u145, u146, u147, u148, u149, u150, u151, u152, u153, u154, u155, u156, u157, u158, u159, u160, u161, u162, u163, u164, u165, u166, u167, u168, u169, u170, u171, u172, u173, u174, u175, u176, u177, u178, u179, u180, u181, u182, u183, u184, u185, u186, u187, u188, u189, u190, u191, u192, u193, u194, u195, u196, u197, u198, u199, u200, u201, u202, u203, u204, u205, u206], defers := [] } wq) :
    Code.wp Tryz.prog (codeOf [1, 1, 1, 0, 1, 1, 1, 1, 0, 1, 1, 0, 1] (Tryz.f3.body.getD .skip)) Q { tmps := #[u0, u1, u2, u3, u4, .pointer (some ⟨B, 0, none⟩), .pointer (some ⟨M, 0, none⟩), u7, .pointer (some ⟨A, 0, none⟩), u9, u10, u11, u12, u13, u14, u15, u16, u17, u18, u19, u20, u21, u22, u23, u24, u25, u26, u27, u28, u29, u30, u31, u32, u33, u34, u35, u36, u37, u38, u39, u40, u41, u42, u43, u44, .int .u64 (U % 4), u46, u47, u48, u49, u50, u51, u52, u53, u54, u55, u56, u57, u58, u59, u60, u61, u62, u63, u64, u65, u66, u67, u68, u69, u70, u71, u72, u73, u74, u75, u76, u77, u78, u79, u80, u81, u82, u83, u84, u85, u86, u87, u88, u89, u90, u91, u92, u93, u94, u95, u96, u97, u98, u99, u100, u101, u102, u103, u104, u105, u106, u107, u108, u109, u110, u111, u112, u113, u114, u115, u116, u117, u118, u119, u120, u121, u122, u123, u124, u125, u126, u127, u128, u129, u130, u131, u132, u133, u134, u135, u136, u137, u138, u139, u140, u141, u142, u143, u144, u145, u146, u147, u148, u149, u150, u151, u152, u153, u154, u155, u156, u157, u158, u159, u160, u161, u162, u163, u164, u165, u166, u167, u168, u169, u170, u171, u172, u173, u174, u175, u176, u177, u178, u179, u180, u181, u182, u183, u184, u185, u186, u187, u188, u189, u190, u191, u192, u193, u194, u195, u196, u197, u198, u199, u200, u201, u202, u203, u204, u205, u206], defers := [] } w3 := by
  have HT := Lib.hid hT
  have HP := Lib.hid hP
  have HA := Lib.hid ha
  have HId := Lib.hid hid
  have HPu := Lib.hid hp
  have HQ := Lib.hid hQ
  have HC1 := Lib.hid hc1
  have HC2 := Lib.hid hc2
  clear hT hP ha hid hp hQ hc1 hc2
  have HU0 := Lib.hid hU0
  clear hU0
  simp only [codeOf, Tryz.f3, Option.getD_some]
  have hq : U % 4 = 0 ∨ U % 4 = 1 ∨ U % 4 = 2 ∨ U % 4 = 3 := by have := HU0.out; omega
  rcases hq with h | h | h | h
  · rw [h]
    clear h
    go_upto_if 61 with (fail)
    refine wp_cond (t := true) rfl ?_
    simp only [if_true]
    refine wp_skip ?_
    go_upto_if 61 with (fail)
    refine wp_cond (t := true) rfl ?_
    simp only [if_true]
    refine plays_put HT.out HP.out HC1.out HC2.out HA.out HId.out HPu.out ?_
    intro p4 p9 p10 p11 p12 p13 p64 p65 p66 p67 p68 p69 p70 p71 p72 p73 p74 p75 p76 p77 p78 p79 p80 p81 p82 p83 p84 p85 p86 p87 p88 p89 p90 p91 p92 wq ⟨puts', L', v', h1, h2⟩ h3
    go_wp2
    exact HQ.out ⟨now, puts', L', v', h1, h2⟩ h3
  · rw [h]
    clear h
    go_upto_if 61 with (fail)
    refine wp_cond (t := false) rfl ?_
    simp only [Bool.false_eq_true, if_false]
    go_upto_if 61 with (fail)
    refine wp_cond (t := true) rfl ?_
    simp only [if_true]
    refine plays_put HT.out HP.out HC1.out HC2.out HA.out HId.out HPu.out ?_
    intro p4 p9 p10 p11 p12 p13 p64 p65 p66 p67 p68 p69 p70 p71 p72 p73 p74 p75 p76 p77 p78 p79 p80 p81 p82 p83 p84 p85 p86 p87 p88 p89 p90 p91 p92 wq ⟨puts', L', v', h1, h2⟩ h3
    go_wp2
    exact HQ.out ⟨now, puts', L', v', h1, h2⟩ h3
  · rw [h]
    clear h
    go_upto_if 61 with (fail)
    refine wp_cond (t := false) rfl ?_
    simp only [Bool.false_eq_true, if_false]
    go_upto_if 61 with (fail)
    refine wp_cond (t := false) rfl ?_
    simp only [Bool.false_eq_true, if_false]
    go_upto_if 93 with (fail)
    refine wp_cond (t := true) rfl ?_
    simp only [if_true]
    refine plays_del HT.out HP.out HC1.out HC2.out HA.out HId.out HPu.out ?_
    intro p4 p14 p15 p16 p95 p96 p97 p98 p99 p100 p101 p102 p103 p104 p105 p106 p107 p108 p109 p110 p111 p112 p113 p114 p115 p116 p117 p118 p119 p120 p121 p122 wq ⟨L', v', h2⟩ h3
    go_wp2
    exact HQ.out ⟨_, puts, _, _, Nat.le_succ _, h2⟩ h3
  · rw [h]
    clear h
    go_upto_if 61 with (fail)
    refine wp_cond (t := false) rfl ?_
    simp only [Bool.false_eq_true, if_false]
    go_upto_if 61 with (fail)
    refine wp_cond (t := false) rfl ?_
    simp only [Bool.false_eq_true, if_false]
    go_upto_if 93 with (fail)
    refine wp_cond (t := false) rfl ?_
    simp only [Bool.false_eq_true, if_false]
    refine plays_to HT.out HP.out HC1.out HC2.out HA.out HId.out HPu.out ?_
    intro p4 p17 p18 p46 p47 p48 p49 p50 p51 p52 p53 p54 p55 p56 p57 p58 p59 p60 wq ⟨now', L', v', h2⟩ h3
    go_wp2
    exact HQ.out ⟨_, puts, _, _, Nat.le_succ _, h2⟩ h3
end Go.Proofs.YtcjemidflbfljaaGreatDoor

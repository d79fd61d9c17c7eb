/-
  CopyPlays: a part (a try).
-/
import Derived.Test.YtcdolkbljheniaaCpW
import Derived.Deep.RegionHeld3
import Derived.Deep.CutBlock
namespace Go.Proofs.Ytcdolkbljheniaa
open Go.RowKit

set_option maxRecDepth 100000 in
set_option maxHeartbeats 4000000 in
theorem plays_try {w w3 : World} {n N b g cp L D c X j ga off len6 cap6 : Nat} {y : MS} {z : CZ} {v : Option Addr} {cap : Nat} {T : Bool} (hP : PX w w3 b g N y L D c z X v cap) (hN : 16 * n = N) (hN2 : N ≤ 256) (ht : z.t < 100000) (hlt : j < len6) (hq : w.cell? ⟨ga, off + j * 7 + 1, none⟩ = some (.bool T))
    {u1 u2 u3 u4 u5 u7 u8 u9 u10 u11 u12 u13 u14 u16 u18 u20 u23 u24 u25 u26 u27 u28 u29 u30 u31 u32 u33 u34 u35 u36 u37 u38 u39 u40 u41 u42 u43 u44 u45 u46 u47 u48 u49 u50 u51 u52 u53 u54 u55 u56 u57 u58 u59 u60 u61 u62 u63 u64 u65 u66 u67 u68 u69 u70 u71 u72 u73 u74 u75 u76 u77 u78 u79 u80 u81 u82 u83 u84 u85 u86 u87 u88 u89 u90 u91 u92 u93 u94 u95 u96 u97 u98 u99 u100 u101 u102 u103 u104 u105 u106 u107 u108 u109 u110 u111 u112 u113 u114 u115 u116 u117 u118 u119 u120 u121 u122 u123 u124 u125 u126 u127 u128 u129 u130 u131 u132 u133 u134 u135 u136 u137 u138 u139 u140 u141 u142 u143 u144 u145 u146 u147 u148 u149 u150 u151 u152 u153 u154 u155 u156 u157 u158 u159 u160 u161 u162 u163 u164 u165 u166 u167 u168 u169 u170 u171 u172 u173 u174 u175 u176 u177 u178 u179 u180 u181 u182 u183 u184 u185 u186 u187 u188 u189 u190 u191 u192 u193 u194 u195 u196 u197 u198 u199 u200 u201 u202 u203 u204 u205 u206 u207 u208 u209 u210 u211 u212 u213 : Value} {Q : Exit → Act → World → Prop}
    (hQ : ∀ ⦃x14 x17 x23 x24 x25 x26 x27 x28 x29 x136 x137 x138 x139 x140 x141 x142 x143 x144 x145 x146 x147 x148 x149 x150 x151 x152 x153 x154 x155 x156 x157 x158 x159 x160 x161 x162 x163 x164 x165 x166 x167 x168 x169 x170 x171 x172 x173 x174 x175 x176 x177 x178 x179 x180 x181 x182 x183 x184 x185 x186 x187 x188 x189 x190 x191 x192 x193 x194 x195 x196 x197 x198 x199 x200 x201 x202 x203 x204 x205 x206 x207 x208 x209 x210 x211 x212 : Value⦄ ⦃wq : World⦄, (∃ g' cp' y' z' v' cap', x17 = .slice (some ⟨g', 0, none⟩) N cp' ∧ PX w wq b g' N y' L D c z' X v' cap' ∧ z'.t ≤ z.t + 1) → Q .normal { tmps := #[.int .i64 (n : Int), u1, u2, u3, u4, u5, .slice (some ⟨ga, off, none⟩) len6 cap6, u7, u8, u9, u10, u11, u12, u13, x14, .pointer (some ⟨b, 0, none⟩), u16, x17, u18, .pointer (some ⟨c, 0, none⟩), u20, .pointer (some ⟨X, 0, none⟩), .int .i64 (j : Int), x23, x24, x25, x26, x27, x28, x29, u30, u31, u32, u33, u34, u35, u36, u37, u38, u39, u40, u41, u42, u43, u44, u45, u46, u47, u48, u49, u50, u51, u52, u53, u54, u55, u56, u57, u58, u59, u60, u61, u62, u63, u64, u65, u66, u67, u68, u69, u70, u71, u72, u73, u74, u75, u76, u77, u78, u79, u80, u81, u82, u83, u84, u85, u86, u87, u88, u89, u90, u91, u92, u93, u94, u95, u96, u97, u98, u99, u100, u101, u102, u103, u104, u105, u106, u107, u108, u109, u110, u111, u112, u113, u114, u115, u116, u117, u118, u119, u120, u121, u122, u123, u124, u125, u126, u127, u128, u129, u130, u131, u132, u133, u134, u135, x136, x137, x138, x139, x140, x141, x142, x143, x144, x145, x146, x147, x148, x149, x150, x151, x152, x153, x154, x155, x156, x157, x158, x159, x160, x161, x162, x163, x164, x165, x166, x167, x168, x169, x170, x171, x172, x173, x174, x175, x176, x177, x178, x179, x180, x181, x182, x183, x184, x185, x186, x187, x188, x189, x190, x191, x192, x193, x194, x195, x196, x197, x198, x199, x200, x201, x202, x203, x204, x205, x206, x207, x208, x209, x210, x211, x212, u213], defers := [] } wq) :
    Code.wp Try.prog (codeOf [1, 1, 1, 1, 1, 1, 1, 1, 1, 1, 1, 1, 0, 1, 1, 1, 1, 0, 1, 1] (Try.f3.body.getD .skip)) Q { tmps := #[.int .i64 (n : Int), u1, u2, u3, u4, u5, .slice (some ⟨ga, off, none⟩) len6 cap6, u7, u8, u9, u10, u11, u12, u13, u14, .pointer (some ⟨b, 0, none⟩), u16, .slice (some ⟨g, 0, none⟩) N cp, u18, .pointer (some ⟨c, 0, none⟩), u20, .pointer (some ⟨X, 0, none⟩), .int .i64 (j : Int), u23, u24, u25, u26, u27, u28, u29, u30, u31, u32, u33, u34, u35, u36, u37, u38, u39, u40, u41, u42, u43, u44, u45, u46, u47, u48, u49, u50, u51, u52, u53, u54, u55, u56, u57, u58, u59, u60, u61, u62, u63, u64, u65, u66, u67, u68, u69, u70, u71, u72, u73, u74, u75, u76, u77, u78, u79, u80, u81, u82, u83, u84, u85, u86, u87, u88, u89, u90, u91, u92, u93, u94, u95, u96, u97, u98, u99, u100, u101, u102, u103, u104, u105, u106, u107, u108, u109, u110, u111, u112, u113, u114, u115, u116, u117, u118, u119, u120, u121, u122, u123, u124, u125, u126, u127, u128, u129, u130, u131, u132, u133, u134, u135, u136, u137, u138, u139, u140, u141, u142, u143, u144, u145, u146, u147, u148, u149, u150, u151, u152, u153, u154, u155, u156, u157, u158, u159, u160, u161, u162, u163, u164, u165, u166, u167, u168, u169, u170, u171, u172, u173, u174, u175, u176, u177, u178, u179, u180, u181, u182, u183, u184, u185, u186, u187, u188, u189, u190, u191, u192, u193, u194, u195, u196, u197, u198, u199, u200, u201, u202, u203, u204, u205, u206, u207, u208, u209, u210, u211, u212, u213], defers := [] } w3 := by
  have HQ := Lib.hid hQ
  have HP := Lib.hid hP
  have HC := Lib.hid hq
  have HTt := Lib.hid ht
  clear hQ hP hq ht
  simp only [codeOf, Try.f3, Option.getD_some]
  refine wp_seq_k (fun K1 hK1 => ?_)
  have HK1 := Lib.hid hK1
  clear hK1
  go_wp2_with fail
  refine HK1.out _ _ ?_
  clear HK1
  refine wp_seq_k (fun K2 hK2 => ?_)
  have HK2 := Lib.hid hK2
  clear hK2
  refine plays_rtry HP.out hN hN2 HTt.out hlt HC.out ?_
  intro x17 x23 x136 x137 x138 x139 x140 x141 x142 x143 x144 x145 x146 x147 wq ⟨g', cp', v', cap', E, z', y', h17, h23, hz, hch, hpr⟩
  subst h17
  subst h23
  have HZ := Lib.hid hz
  have HCh := Lib.hid hch
  clear hz hch
  refine HK2.out _ _ ?_
  clear HK2
  refine plays_told hN hN2 hlt HC.out HCh.out hpr ?_
  intro y14 y24 y25 y26 y27 y28 y29 y148 y149 y150 y151 y152 y153 y154 y155 y156 y157 y158 y159 y160 y161 y162 y163 y164 y165 y166 y167 y168 y169 y170 y171 y172 y173 y174 y175 y176 y177 y178 y179 y180 y181 y182 y183 y184 y185 y186 y187 y188 y189 y190 y191 y192 y193 y194 y195 y196 y197 y198 y199 y200 y201 y202 y203 y204 y205 y206 y207 y208 y209 y210 y211 y212 wz hpz
  exact HQ.out ⟨g', cp', y', z', v', cap', rfl, hpz, HZ.out⟩
end Go.Proofs.Ytcdolkbljheniaa

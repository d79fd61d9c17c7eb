/-
  GracePlays: a part (poll).
-/
import Derived.Test.YtjoaigadlpndcaaGreatDoorGzI
import Derived.Test.YtjoaigadlpndcaaGreatDoorGzF
import Derived.Deep.RegionHeld3
import Derived.Deep.CutBlock
namespace Go.Proofs.YtjoaigadlpndcaaGreatDoor
open Go.RowKit Go.Shelf Go.BigFrame
open rC (Th)

attribute [local go_sem] Oper.semAt_some

theorem intsAt_chP {w w' : World} {T : Nat → Prop} {ad : Option Addr} {O : List Int} (h : IntsAt w ad O) (hc : ChP T w w') (hT : ∀ y, ad = some y → ¬ T y.block) : IntsAt w' ad O := by
  rcases h with h | ⟨g, off, e, h⟩
  · exact .inl h
  · refine .inr ⟨g, off, e, fun i hi => ?_⟩
    have hs := hc.block g (cell_lt (h i hi)) (hT _ e)
    exact (World.cell?_of_block (a := ⟨g, off + i, none⟩) hs).trans (h i hi)
set_option maxRecDepth 100000 in
set_option maxHeartbeats 4000000 in
theorem plays_poll {w w3 : World} {base a L n b c k q : Nat} {s : Sl3} {z : Az} {K R C Id : Int} (hP : QR w w3 base a L n b c k s z q K R C Id) (hk : k < 50)
    {u0 u1 u2 u3 u4 u5 u6 u8 u10 u12 u13 u14 u15 u16 u17 u18 u19 u20 u21 u22 u23 u24 u25 u26 u27 u28 u29 u30 u31 u32 u33 u34 u35 u36 u37 u38 u39 u40 u41 u42 u43 u44 u45 u46 u47 u48 u49 u50 u51 u52 u53 u54 u55 u56 u57 u58 u59 u60 u61 u62 u63 u64 u65 u66 u67 u68 u69 u70 u71 u72 u73 u74 u75 u76 u77 u78 u79 u80 u81 u82 u83 u84 u85 u86 u87 u88 u89 u90 u91 u92 u93 u94 u95 u96 u97 u98 u99 u100 u101 u102 u103 u104 u105 u106 u107 u108 u109 u110 u111 u112 u113 u114 u115 u116 u117 u118 u119 u120 u121 u122 u123 u124 u125 u126 u127 u128 u129 u130 u131 u132 u133 u134 u135 u136 u137 u138 u139 u140 u141 u142 u143 u144 u145 u146 u147 u148 u149 u150 u151 u152 u153 u154 u155 u156 u157 u158 u159 u160 u161 u162 u163 u164 u165 u166 u167 u168 u169 u170 u171 u172 u173 u174 u175 u176 u177 u178 u179 u180 u181 u182 u183 u184 u185 u186 u187 u188 u189 u190 u191 u192 u193 u194 u195 u196 u197 u198 u199 u200 u201 u202 u203 u204 u205 u206 u207 u208 u209 u210 u211 u212 u213 u214 u215 u216 u217 u218 u219 : Value} {Q : Exit → Act → World → Prop}
    (hQ : ∀ ⦃x6 x23 x24 x57 x58 x59 x60 x61 x62 x63 x64 x65 x66 x67 : Value⦄ ⦃wq : World⦄, (∃ c' s' z', QR w wq base a L n b c' (k + 1) s' z' q K R C Id) → Q .normal { tmps := #[u0, u1, u2, u3, u4, u5, x6, .pointer (some ⟨a, 0, none⟩), u8, .pointer (some ⟨b, 0, none⟩), u10, .pointer (some ⟨q, 0, none⟩), u12, u13, u14, u15, u16, u17, u18, u19, u20, u21, u22, x23, x24, u25, u26, u27, u28, u29, u30, u31, u32, u33, u34, u35, u36, u37, u38, u39, u40, u41, u42, u43, u44, u45, u46, u47, u48, u49, u50, u51, u52, u53, u54, u55, u56, x57, x58, x59, x60, x61, x62, x63, x64, x65, x66, x67, u68, u69, u70, u71, u72, u73, u74, u75, u76, u77, u78, u79, u80, u81, u82, u83, u84, u85, u86, u87, u88, u89, u90, u91, u92, u93, u94, u95, u96, u97, u98, u99, u100, u101, u102, u103, u104, u105, u106, u107, u108, u109, u110, u111, u112, u113, u114, u115, u116, u117, u118, u119, u120, u121, u122, u123, u124, u125, u126, u127, u128, u129, u130, u131, u132, u133, u134, u135, u136, u137, u138, u139, u140, u141, u142, u143, u144, u145, u146, u147, u148, u149, u150, u151, u152, u153, u154, u155, u156, u157, u158, u159, u160, u161, u162, u163, u164, u165, u166, u167, u168, u169, u170, u171, u172, u173, u174, u175, u176, u177, u178, u179, u180, u181, u182, u183, u184, u185, u186, u187, u188, u189, u190, u191, u192, u193, u194, u195, u196, u197, u198, u199, u200, u201, u202, u203, u204, u205, u206, u207, u208, u209, u210, u211, u212, u213, u214, u215, u216, u217, u218, u219], defers := [] } wq) :
    Code.wp Tryz.prog (codeOf [1, 1, 1, 1, 1, 0, 1, 1, 1, 1, 0, 1, 1, 0, 1, 1, 1, 1, 1, 1, 1, 1, 1, 1] (Tryz.f3.body.getD .skip)) Q { tmps := #[u0, u1, u2, u3, u4, u5, u6, .pointer (some ⟨a, 0, none⟩), u8, .pointer (some ⟨b, 0, none⟩), u10, .pointer (some ⟨q, 0, none⟩), u12, u13, u14, u15, u16, u17, u18, u19, u20, u21, u22, u23, u24, u25, u26, u27, u28, u29, u30, u31, u32, u33, u34, u35, u36, u37, u38, u39, u40, u41, u42, u43, u44, u45, u46, u47, u48, u49, u50, u51, u52, u53, u54, u55, u56, u57, u58, u59, u60, u61, u62, u63, u64, u65, u66, u67, u68, u69, u70, u71, u72, u73, u74, u75, u76, u77, u78, u79, u80, u81, u82, u83, u84, u85, u86, u87, u88, u89, u90, u91, u92, u93, u94, u95, u96, u97, u98, u99, u100, u101, u102, u103, u104, u105, u106, u107, u108, u109, u110, u111, u112, u113, u114, u115, u116, u117, u118, u119, u120, u121, u122, u123, u124, u125, u126, u127, u128, u129, u130, u131, u132, u133, u134, u135, u136, u137, u138, u139, u140, u141, u142, u143, u144, u145, u146, u147, u148, u149, u150, u151, u152, u153, u154, u155, u156, u157, u158, u159, u160, u161, u162, u163, u164, u165, u166, u167, u168, u169, u170, u171, u172, u173, u174, u175, u176, u177, u178, u179, u180, u181, u182, u183, u184, u185, u186, u187, u188, u189, u190, u191, u192, u193, u194, u195, u196, u197, u198, u199, u200, u201, u202, u203, u204, u205, u206, u207, u208, u209, u210, u211, u212, u213, u214, u215, u216, u217, u218, u219], defers := [] } w3 := by
  have HQ := Lib.hid hQ
  have HP := Lib.hid hP
  have HK := Lib.hid hk
  clear hQ hP hk
  simp only [codeOf, Tryz.f3, Option.getD_some]
  obtain ⟨O, hO⟩ : ∃ O, outZ n z = O := ⟨_, rfl⟩
  obtain ⟨z1, hz1⟩ : ∃ z1, begZ (endZ z) = z1 := ⟨_, rfl⟩
  have hlO : O.length ≤ 9223372036854775807 := by
    have h1 := HP.out.1.iz.ml
    have h2 := HK.out
    have h3 := HP.out.1.nn
    rw [← hO]
    unfold outZ
    split
    · have h4 := outM_len z.gen z.M n
      have h5 : n * z.M.length ≤ 64 * 100 := Nat.mul_le_mul h3 (by omega)
      omega
    · exact Nat.zero_le _
  have C1 := Lib.hid (gz_poll (n := n) HP.out.1.rz HP.out.1.xlt HP.out.1.szw (by have h1 := HP.out.1.iz.dl; have h2 := HK.out; omega) (by have h1 := HP.out.1.iz.ml; have h2 := HK.out; omega) HP.out.1.iz.pl HP.out.1.nn (by have := HP.out.1.gen; omega) HP.out.1.iz.la)
  rw [hO, hz1] at C1
  have hi1 : IZ n (k + 1) z1 := by rw [← hz1]; exact HP.out.1.iz.end.beg
  have HI1 := Lib.hid hi1
  have HZ1 := Lib.hid hz1
  have HO := Lib.hid hO
  have HlO := Lib.hid hlO
  clear hO hz1 hlO hi1
  obtain ⟨a1, n1, c1, a2, n2, c2, a3, n3, c3⟩ := s
  obtain ⟨ds, M, last, rn, t, P, p, gen, ov, wt⟩ := z
  have b0 : w3.cell? ⟨b, 0, none⟩ = some (.slice a1 n1 c1) := HP.out.1.bz.c0
  have b1 : w3.cell? ⟨b, 1, none⟩ = some (.int .i64 (n : Int)) := HP.out.1.bz.c1
  have b2 : w3.cell? ⟨b, 2, none⟩ = some (.int .i64 last) := HP.out.1.bz.c2
  have b3 : w3.cell? ⟨b, 3, none⟩ = some (.slice a2 n2 c2) := HP.out.1.bz.c3
  have b4 : w3.cell? ⟨b, 4, none⟩ = some (.bool rn) := HP.out.1.bz.c4
  have b5 : w3.cell? ⟨b, 5, none⟩ = some (.int .i64 t) := HP.out.1.bz.c5
  have b6 : w3.cell? ⟨b, 6, none⟩ = some (.int .i64 (P : Int)) := HP.out.1.bz.c6
  have b7 : w3.cell? ⟨b, 7, none⟩ = some (.slice a3 n3 c3) := HP.out.1.bz.c7
  have b8 : w3.cell? ⟨b, 8, none⟩ = some (.int .i64 gen) := HP.out.1.bz.c8
  have b9 : w3.cell? ⟨b, 9, none⟩ = some (.int .i64 ov) := HP.out.1.bz.c9
  have b10 : w3.cell? ⟨b, 10, none⟩ = some (.int .i64 wt) := HP.out.1.bz.c10
  go_wp2_with fail
  with_reducible refine C1.out.mono ?_
  rintro e w4 ⟨s1, ad, cap, rfl, hrz, hio, hc4, had⟩
  obtain ⟨d1, e1, f1, d2, e2, f2, d3, e3, f3⟩ := s1
  obtain ⟨ds', M', last', rn', t', P', p', gen', ov', wt'⟩ := z1
  clear b0 b1 b2 b3 b4 b5 b6 b7 b8 b9 b10
  obtain ⟨w5, hw5⟩ : ∃ W, W = w4.alloc (.cells #[.slice d1 e1 f1, .int .i64 (n : Int), .int .i64 last', .slice d2 e2 f2, .bool rn', .int .i64 t', .int .i64 (P' : Int), .slice d3 e3 f3, .int .i64 gen', .int .i64 ov', .int .i64 wt'] 36) := ⟨_, rfl⟩
  have hc45 : Ch [] w4 w5 := by rw [hw5]; exact (Ch.refl [] w4).alloc _
  have hx5 : Bx w5 w4.heap.size (.slice d1 e1 f1) (.int .i64 (n : Int)) (.int .i64 last') (.slice d2 e2 f2) (.bool rn') (.int .i64 t') (.int .i64 (P' : Int)) (.slice d3 e3 f3) (.int .i64 gen') (.int .i64 ov') (.int .i64 wt') := by rw [hw5]; exact Bx.new w4 _ _ _ _ _ _ _ _ _ _ _ _
  have HC5 := Lib.hid (hc4.trans hc45)
  have HRZ := Lib.hid (hrz.quiet hc45)
  have HX5 := Lib.hid hx5
  have HP5 := Lib.hid (HP.out.quiet HC5.out)
  have HS4 := Lib.hid hc4.size
  have HIO := Lib.hid (hio.ch hc45)
  have HAd := Lib.hid had
  have C2 := Lib.hid (HP5.out.1.poll HO.out HZ1.out)
  have HW5 := Lib.hid hw5
  clear hc4 hc45 hx5 hrz C1 hw5 hio had
  go_frame
  go_wp2_with fail
  rw [← HW5.out]
  with_reducible refine C2.out.mono ?_
  rintro e w6 ⟨ad6, cap6, c', rfl, hio6, hd, hc6, hG⟩
  have hioA : IntsAt w6 ad O := intsAt_chP HIO.out hc6 (fun y e => (HP.out.1.new (HAd.out y e)).1)
  have C3 := Lib.hid (same_eq ad6 ad cap6 cap O w6 HlO.out hio6 hioA)
  have hx6 := HX5.out.chP hc6 (HP.out.1.new HS4.out).1
  have hb6 := HP5.out.1.bz.chP hc6 HP5.out.1.own_b
  have HPN := Lib.hid (fun w7 (h7 : Ch [] w6 w7) => HP.out.next HC5.out (hc6.trans (.quiet h7)) (hd.quiet h7) HRZ.out HI1.out HK.out hG)
  have HX6 := Lib.hid hx6
  have HB6 := Lib.hid hb6
  clear hx6 hb6 hd hc6 HX5 C2 hio6 hioA hG
  go_frame
  go_wp2_with fail
  with_reducible refine C3.out.mono ?_
  rintro e w7 ⟨rfl, m, hm⟩
  have hc7 : Ch [] w6 w7 := by rw [hm]; exact (Ch.refl [] w6).drewN m
  have hx7 := HX6.out.quiet hc7
  have hb7 := HB6.out.quiet hc7
  clear C3 hm
  have x0 : w7.cell? ⟨w4.heap.size, 0, none⟩ = some (.slice d1 e1 f1) := hx7.c0
  have x1 : w7.cell? ⟨w4.heap.size, 1, none⟩ = some (.int .i64 (n : Int)) := hx7.c1
  have x2 : w7.cell? ⟨w4.heap.size, 2, none⟩ = some (.int .i64 last') := hx7.c2
  have x3 : w7.cell? ⟨w4.heap.size, 3, none⟩ = some (.slice d2 e2 f2) := hx7.c3
  have x4 : w7.cell? ⟨w4.heap.size, 4, none⟩ = some (.bool rn') := hx7.c4
  have x5 : w7.cell? ⟨w4.heap.size, 5, none⟩ = some (.int .i64 t') := hx7.c5
  have x6 : w7.cell? ⟨w4.heap.size, 6, none⟩ = some (.int .i64 (P' : Int)) := hx7.c6
  have x7 : w7.cell? ⟨w4.heap.size, 7, none⟩ = some (.slice d3 e3 f3) := hx7.c7
  have x8 : w7.cell? ⟨w4.heap.size, 8, none⟩ = some (.int .i64 gen') := hx7.c8
  have x9 : w7.cell? ⟨w4.heap.size, 9, none⟩ = some (.int .i64 ov') := hx7.c9
  have x10 : w7.cell? ⟨w4.heap.size, 10, none⟩ = some (.int .i64 wt') := hx7.c10
  have b0 : w7.cell? ⟨b, 0, none⟩ = some (.slice a1 n1 c1) := hb7.c0
  have b1 : w7.cell? ⟨b, 1, none⟩ = some (.int .i64 (n : Int)) := hb7.c1
  have b2 : w7.cell? ⟨b, 2, none⟩ = some (.int .i64 last) := hb7.c2
  have b3 : w7.cell? ⟨b, 3, none⟩ = some (.slice a2 n2 c2) := hb7.c3
  have b4 : w7.cell? ⟨b, 4, none⟩ = some (.bool rn) := hb7.c4
  have b5 : w7.cell? ⟨b, 5, none⟩ = some (.int .i64 t) := hb7.c5
  have b6 : w7.cell? ⟨b, 6, none⟩ = some (.int .i64 (P : Int)) := hb7.c6
  have b7 : w7.cell? ⟨b, 7, none⟩ = some (.slice a3 n3 c3) := hb7.c7
  have b8 : w7.cell? ⟨b, 8, none⟩ = some (.int .i64 gen) := hb7.c8
  have b9 : w7.cell? ⟨b, 9, none⟩ = some (.int .i64 ov) := hb7.c9
  have b10 : w7.cell? ⟨b, 10, none⟩ = some (.int .i64 wt) := hb7.c10
  have bf : ∀ k, w7.frozen? ⟨b, k, none⟩ = false := hb7.fr
  have HPM := Lib.hid (HPN.out w7 hc7)
  clear hx7 hb7 hc7 HX6 HB6 HPN
  go_frame
  go_wp2_with fail
  exact HQ.out ⟨_, _, _, HPM.out⟩
end Go.Proofs.YtjoaigadlpndcaaGreatDoor

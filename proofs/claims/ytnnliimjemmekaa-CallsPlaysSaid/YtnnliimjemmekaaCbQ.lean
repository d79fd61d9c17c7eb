/-
  CallsPlays: a part (close).
-/
import Derived.Test.YtnnliimjemmekaaCbA
import Derived.Deep.RegionHeld3
import Derived.Deep.CutBlock
namespace Go.Proofs.Ytnnliimjemmekaa
open Go.RowKit Go.Maps Go.BigFrame
open rC (Th flat)

attribute [local go_sem] Oper.semAt_some

set_option maxRecDepth 100000 in
set_option maxHeartbeats 4000000 in
theorem plays_close {w w3 : World} {base top A n b : Nat} {last : Int} {M : List Cb} {v : Value} {a : Nat} {K C Gn : Int} {aI : Option Addr} {m cI : Nat} {zs : List Int} (hP : PS w w3 base top A n b last M v) (hA : Qa w3 a K C Gn (.slice aI m cI)) (ha : top ≤ a ∧ a ≠ b) (hz : IntsAt w aI zs) (hm : m = zs.length) (_ : m ≤ cI) (_ : cI ≤ 9223372036854775807)
    {u0 u1 u2 u3 u4 u6 u8 u10 u11 u12 u13 u14 u15 u16 u17 u18 u19 u20 u21 u22 u23 u24 u25 u26 u27 u28 u29 u30 u31 u32 u33 u34 u35 u36 u37 u38 u39 u40 u41 u42 u43 u44 u45 u46 u47 u48 u49 u50 u51 u52 u53 u54 u55 u56 u57 u58 u59 u60 u61 u62 u63 u64 u65 u66 u67 u68 u69 u70 u71 u72 u73 u74 u75 u76 u77 u78 u79 u80 u81 u82 u83 u84 u85 u86 u87 u88 u89 u90 u91 u92 u93 u94 u95 u96 u97 u98 u99 u100 u101 u102 u103 u104 u105 u106 u107 u108 u109 u110 u111 u112 u113 u114 u115 u116 u117 u118 u119 u120 u121 u122 u123 u124 u125 u126 u127 u128 u129 u130 u131 u132 u133 u134 u135 u136 u137 u138 u139 u140 u141 u142 u143 u144 u145 u146 u147 u148 u149 u150 u151 u152 u153 u154 u155 u156 u157 u158 u159 u160 u161 u162 u163 u164 u165 u166 u167 u168 u169 u170 u171 u172 u173 u174 u175 u176 u177 u178 u179 u180 u181 u182 u183 u184 u185 u186 u187 u188 u189 u190 u191 u192 u193 u194 u195 u196 u197 u198 u199 u200 u201 u202 u203 u204 u205 u206 u207 u208 : Value} {Q : Exit → Act → World → Prop}
    (hQ : ∀ ⦃x4 x13 x14 x97 x98 x99 x100 x101 x102 x103 x104 x105 x106 x107 x108 x109 x110 : Value⦄ ⦃wq : World⦄, (∃ last' M' v', PS w wq base top A n b last' M' v') → Q .normal { tmps := #[u0, u1, u2, u3, x4, .pointer (some ⟨A, 0, none⟩), u6, .pointer (some ⟨b, 0, none⟩), u8, .pointer (some ⟨a, 0, none⟩), u10, u11, u12, x13, x14, u15, u16, u17, u18, u19, u20, u21, u22, u23, u24, u25, u26, u27, u28, u29, u30, u31, u32, u33, u34, u35, u36, u37, u38, u39, u40, u41, u42, u43, u44, u45, u46, u47, u48, u49, u50, u51, u52, u53, u54, u55, u56, u57, u58, u59, u60, u61, u62, u63, u64, u65, u66, u67, u68, u69, u70, u71, u72, u73, u74, u75, u76, u77, u78, u79, u80, u81, u82, u83, u84, u85, u86, u87, u88, u89, u90, u91, u92, u93, u94, u95, u96, x97, x98, x99, x100, x101, x102, x103, x104, x105, x106, x107, x108, x109, x110, u111, u112, u113, u114, u115, u116, u117, u118, u119, u120, u121, u122, u123, u124, u125, u126, u127, u128, u129, u130, u131, u132, u133, u134, u135, u136, u137, u138, u139, u140, u141, u142, u143, u144, u145, u146, u147, u148, u149, u150, u151, u152, u153, u154, u155, u156, u157, u158, u159, u160, u161, u162, u163, u164, u165, u166, u167, u168, u169, u170, u171, u172, u173, u174, u175, u176, u177, u178, u179, u180, u181, u182, u183, u184, u185, u186, u187, u188, u189, u190, u191, u192, u193, u194, u195, u196, u197, u198, u199, u200, u201, u202, u203, u204, u205, u206, u207, u208], defers := [] } wq) :
    Code.wp Try.prog (codeOf [1, 1, 1, 1, 1, 0, 1, 1, 1, 1, 0, 1, 1, 0, 1, 1, 1, 1, 1, 0] (Try.f3.body.getD .skip)) Q { tmps := #[u0, u1, u2, u3, u4, .pointer (some ⟨A, 0, none⟩), u6, .pointer (some ⟨b, 0, none⟩), u8, .pointer (some ⟨a, 0, none⟩), u10, u11, u12, u13, u14, u15, u16, u17, u18, u19, u20, u21, u22, u23, u24, u25, u26, u27, u28, u29, u30, u31, u32, u33, u34, u35, u36, u37, u38, u39, u40, u41, u42, u43, u44, u45, u46, u47, u48, u49, u50, u51, u52, u53, u54, u55, u56, u57, u58, u59, u60, u61, u62, u63, u64, u65, u66, u67, u68, u69, u70, u71, u72, u73, u74, u75, u76, u77, u78, u79, u80, u81, u82, u83, u84, u85, u86, u87, u88, u89, u90, u91, u92, u93, u94, u95, u96, u97, u98, u99, u100, u101, u102, u103, u104, u105, u106, u107, u108, u109, u110, u111, u112, u113, u114, u115, u116, u117, u118, u119, u120, u121, u122, u123, u124, u125, u126, u127, u128, u129, u130, u131, u132, u133, u134, u135, u136, u137, u138, u139, u140, u141, u142, u143, u144, u145, u146, u147, u148, u149, u150, u151, u152, u153, u154, u155, u156, u157, u158, u159, u160, u161, u162, u163, u164, u165, u166, u167, u168, u169, u170, u171, u172, u173, u174, u175, u176, u177, u178, u179, u180, u181, u182, u183, u184, u185, u186, u187, u188, u189, u190, u191, u192, u193, u194, u195, u196, u197, u198, u199, u200, u201, u202, u203, u204, u205, u206, u207, u208], defers := [] } w3 := by
  have HQ := Lib.hid hQ
  have HP := Lib.hid hP
  have HA := Lib.hid hA
  have HAx := Lib.hid ha
  have HZ := Lib.hid hz
  have HM := Lib.hid hm
  clear hQ hP hA ha hz hm
  simp only [codeOf, Try.f3, Option.getD_some]
  obtain ⟨aV, cV, rfl⟩ := HP.out.row.form
  have hA := HA.out
  have a2 := hA.c2
  have hb := HP.out.bx
  have b0 := hb.c0
  have b1 := hb.c1
  have b2 := hb.c2
  clear hA hb
  by_cases hG : 1 ≤ Gn ∧ last ≤ Gn
  · obtain ⟨hG1, hG2⟩ := hG
    have hAd := rclose_ok (n := (n : Int)) HP.out.row (by have := HP.out.len; omega) hG1 hG2
    obtain ⟨M', hM'⟩ : ∃ M', M' = M.map (giveC Gn) := ⟨_, rfl⟩
    obtain ⟨E, hE⟩ : ∃ E, E = zcM M := ⟨_, rfl⟩
    rw [← hE, ← hM'] at hAd
    have HAd := Lib.hid hAd
    have HRel := Lib.hid (show (fun i => (fOf M i).map (giveT Gn)) = fOf M' by funext i; rw [hM', close_rel])
    have HMI := Lib.hid (show MI M' n Gn by rw [hM']; exact HP.out.mi.close hG1 hG2)
    have HE := Lib.hid (show sumN (fun i => zc (fOf M i)) n = E by rw [hE, sum_zc, zc_rel HP.out.mi.cpu])
    clear hAd hM' hE
    go_wp2_with fail
    with_reducible refine HAd.out.mono ?_
    rintro e w4 ⟨v', rfl, hr4, hv4, hc4⟩
    obtain ⟨av, cv, rfl⟩ := hr4.form
    unfold retC
    have hc5 := hc4.alloc (.cells #[.int .i64 (n : Int), .int .i64 Gn, (.slice av M'.length cv)] 30)
    have ht5 := Three.new w4 (.int .i64 (n : Int)) (.int .i64 Gn) (.slice av M'.length cv) 30
    obtain ⟨w5, hw5⟩ : ∃ W, W = w4.alloc (.cells #[.int .i64 (n : Int), .int .i64 Gn, (.slice av M'.length cv)] 30) := ⟨_, rfl⟩
    have hr5 : RowC w5 (.slice av M'.length cv) M' := by rw [hw5]; exact hr4.quiet ((Ch.refl [] w4).alloc _)
    rw [← hw5] at hc5 ht5
    have HA5 := Lib.hid (HA.out.ch hc5 (by simp))
    have a2 := HA5.out.c2
    rw [hw5] at a2
    have hX : top ≤ w4.heap.size := by have := HP.out.lc.hi; have := hc4.size; omega
    have hAP := (HP.out.quiet hc5).lc.close hG1 hG2
    rw [HE.out, HRel.out] at hAP
    have HAP := Lib.hid hAP
    have HT5 := Lib.hid ht5
    have HC5 := Lib.hid hc5
    have HR5 := Lib.hid hr5
    have HV := Lib.hid (show ∀ g, (Value.slice av M'.length cv).ownBlock = some g → top ≤ g ∧ g ≠ b from fun g e => by have := hv4 g e; have := HP.out.lc.hi; have := HP.out.bx.lt; omega)
    have HX := Lib.hid hX
    clear hc4 hc5 ht5 hr4 hr5 hv4 hX hAP b0 b1 b2
    go_frame
    go_wp2_with fail
    rw [← hw5]
    clear hw5
    with_reducible refine HAP.out.mono ?_
    rintro e w6 ⟨rfl, hl6, hc6⟩
    have ht6 := HT5.out.own HX.out hc6
    have hb6 := (HP.out.bx.ch HC5.out (by simp)).own HP.out.bt hc6
    have HPN := Lib.hid (HP.out.next HC5.out hc6 hl6 HR5.out HV.out HMI.out)
    have t0 := ht6.c0
    have t1 := ht6.c1
    have t2 := ht6.c2
    have b0 := hb6.c0
    have b1 := hb6.c1
    have b2 := hb6.c2
    have f0 := hb6.f0
    have f1 := hb6.f1
    have f2 := hb6.f2
    clear ht6 hb6 hl6 hc6 a2 HAP HT5 HC5 HR5 HV HA5 HX
    go_frame
    go_wp2
    exact HQ.out ⟨_, _, _, HPN.out⟩
  · have hG' : Gn < 1 ∨ Gn < last := by omega
    have HAd := Lib.hid (rclose_no HP.out.row (n : Int) last hG')
    go_wp2_with fail
    with_reducible refine HAd.out.mono ?_
    rintro e w4 ⟨rfl, hc4⟩
    unfold retC
    have hc5 := hc4.alloc (.cells #[.int .i64 (n : Int), .int .i64 last, (.slice aV M.length cV)] 30)
    have ht5 := Three.new w4 (.int .i64 (n : Int)) (.int .i64 last) (.slice aV M.length cV) 30
    obtain ⟨w5, hw5⟩ : ∃ W, W = w4.alloc (.cells #[.int .i64 (n : Int), .int .i64 last, (.slice aV M.length cV)] 30) := ⟨_, rfl⟩
    rw [← hw5] at hc5 ht5
    have HA5 := Lib.hid (HA.out.ch hc5 (by simp))
    have a2 := HA5.out.c2
    rw [hw5] at a2
    have HAP := Lib.hid ((HP.out.quiet hc5).lc.close_no hG')
    have hb6 := HP.out.bx.ch hc5 (by simp)
    have HPN := Lib.hid (HP.out.next hc5 (ChP.refl _ _) (HP.out.quiet hc5).lc (HP.out.row.quiet hc5) HP.out.vt HP.out.mi)
    have HT5 := Lib.hid ht5
    have HB6 := Lib.hid hb6
    clear hc4 hc5 ht5 b0 b1 b2 hb6
    go_frame
    go_wp2_with fail
    rw [← hw5]
    clear hw5
    with_reducible refine HAP.out.mono ?_
    rintro e w6 ⟨rfl, rfl⟩
    have t0 := HT5.out.c0
    have t1 := HT5.out.c1
    have t2 := HT5.out.c2
    have b0 := HB6.out.c0
    have b1 := HB6.out.c1
    have b2 := HB6.out.c2
    have f0 := HB6.out.f0
    have f1 := HB6.out.f1
    have f2 := HB6.out.f2
    clear a2 HAP HT5 HA5 HB6
    go_frame
    go_wp2
    exact HQ.out ⟨_, _, _, HPN.out⟩
end Go.Proofs.Ytnnliimjemmekaa

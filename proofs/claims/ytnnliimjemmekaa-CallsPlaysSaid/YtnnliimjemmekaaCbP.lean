/-
  CallsPlays: a part (put).
-/
import Derived.Test.YtnnliimjemmekaaCbA
import Derived.Deep.RegionHeld3
import Derived.Deep.CutBlock
namespace Go.Proofs.Ytnnliimjemmekaa
open Go.RowKit Go.Maps Go.BigFrame
open rC (Th flat)

attribute [local go_sem] Oper.semAt_some

set_option maxRecDepth 100000 in
set_option maxHeartbeats 4000000 in
theorem plays_put {w w3 : World} {base top A n b : Nat} {last : Int} {M : List Cb} {v : Value} {a : Nat} {K C Gn : Int} {aI : Option Addr} {m cI : Nat} {zs : List Int} (hP : PS w w3 base top A n b last M v) (hA : Qa w3 a K C Gn (.slice aI m cI)) (ha : top ≤ a ∧ a ≠ b) (hz : IntsAt w aI zs) (hm : m = zs.length) (hmc : m ≤ cI) (hcm : cI ≤ 9223372036854775807)
    {u0 u1 u2 u3 u4 u6 u8 u10 u11 u12 u13 u14 u15 u16 u17 u18 u19 u20 u21 u22 u23 u24 u25 u26 u27 u28 u29 u30 u31 u32 u33 u34 u35 u36 u37 u38 u39 u40 u41 u42 u43 u44 u45 u46 u47 u48 u49 u50 u51 u52 u53 u54 u55 u56 u57 u58 u59 u60 u61 u62 u63 u64 u65 u66 u67 u68 u69 u70 u71 u72 u73 u74 u75 u76 u77 u78 u79 u80 u81 u82 u83 u84 u85 u86 u87 u88 u89 u90 u91 u92 u93 u94 u95 u96 u97 u98 u99 u100 u101 u102 u103 u104 u105 u106 u107 u108 u109 u110 u111 u112 u113 u114 u115 u116 u117 u118 u119 u120 u121 u122 u123 u124 u125 u126 u127 u128 u129 u130 u131 u132 u133 u134 u135 u136 u137 u138 u139 u140 u141 u142 u143 u144 u145 u146 u147 u148 u149 u150 u151 u152 u153 u154 u155 u156 u157 u158 u159 u160 u161 u162 u163 u164 u165 u166 u167 u168 u169 u170 u171 u172 u173 u174 u175 u176 u177 u178 u179 u180 u181 u182 u183 u184 u185 u186 u187 u188 u189 u190 u191 u192 u193 u194 u195 u196 u197 u198 u199 u200 u201 u202 u203 u204 u205 u206 u207 u208 : Value} {Q : Exit → Act → World → Prop}
    (hQ : ∀ ⦃x4 x10 x11 x12 x72 x73 x74 x75 x76 x77 x78 x79 x80 x81 x82 x83 x84 x85 x86 x87 x88 x89 x90 x91 x92 x93 x94 : Value⦄ ⦃wq : World⦄, (∃ last' M' v', PS w wq base top A n b last' M' v') → Q .normal { tmps := #[u0, u1, u2, u3, x4, .pointer (some ⟨A, 0, none⟩), u6, .pointer (some ⟨b, 0, none⟩), u8, .pointer (some ⟨a, 0, none⟩), x10, x11, x12, u13, u14, u15, u16, u17, u18, u19, u20, u21, u22, u23, u24, u25, u26, u27, u28, u29, u30, u31, u32, u33, u34, u35, u36, u37, u38, u39, u40, u41, u42, u43, u44, u45, u46, u47, u48, u49, u50, u51, u52, u53, u54, u55, u56, u57, u58, u59, u60, u61, u62, u63, u64, u65, u66, u67, u68, u69, u70, u71, x72, x73, x74, x75, x76, x77, x78, x79, x80, x81, x82, x83, x84, x85, x86, x87, x88, x89, x90, x91, x92, x93, x94, u95, u96, u97, u98, u99, u100, u101, u102, u103, u104, u105, u106, u107, u108, u109, u110, u111, u112, u113, u114, u115, u116, u117, u118, u119, u120, u121, u122, u123, u124, u125, u126, u127, u128, u129, u130, u131, u132, u133, u134, u135, u136, u137, u138, u139, u140, u141, u142, u143, u144, u145, u146, u147, u148, u149, u150, u151, u152, u153, u154, u155, u156, u157, u158, u159, u160, u161, u162, u163, u164, u165, u166, u167, u168, u169, u170, u171, u172, u173, u174, u175, u176, u177, u178, u179, u180, u181, u182, u183, u184, u185, u186, u187, u188, u189, u190, u191, u192, u193, u194, u195, u196, u197, u198, u199, u200, u201, u202, u203, u204, u205, u206, u207, u208], defers := [] } wq) :
    Code.wp Try.prog (codeOf [1, 1, 1, 1, 1, 0, 1, 1, 1, 1, 0, 1, 1, 0, 1, 1, 1, 0] (Try.f3.body.getD .skip)) Q { tmps := #[u0, u1, u2, u3, u4, .pointer (some ⟨A, 0, none⟩), u6, .pointer (some ⟨b, 0, none⟩), u8, .pointer (some ⟨a, 0, none⟩), u10, u11, u12, u13, u14, u15, u16, u17, u18, u19, u20, u21, u22, u23, u24, u25, u26, u27, u28, u29, u30, u31, u32, u33, u34, u35, u36, u37, u38, u39, u40, u41, u42, u43, u44, u45, u46, u47, u48, u49, u50, u51, u52, u53, u54, u55, u56, u57, u58, u59, u60, u61, u62, u63, u64, u65, u66, u67, u68, u69, u70, u71, u72, u73, u74, u75, u76, u77, u78, u79, u80, u81, u82, u83, u84, u85, u86, u87, u88, u89, u90, u91, u92, u93, u94, u95, u96, u97, u98, u99, u100, u101, u102, u103, u104, u105, u106, u107, u108, u109, u110, u111, u112, u113, u114, u115, u116, u117, u118, u119, u120, u121, u122, u123, u124, u125, u126, u127, u128, u129, u130, u131, u132, u133, u134, u135, u136, u137, u138, u139, u140, u141, u142, u143, u144, u145, u146, u147, u148, u149, u150, u151, u152, u153, u154, u155, u156, u157, u158, u159, u160, u161, u162, u163, u164, u165, u166, u167, u168, u169, u170, u171, u172, u173, u174, u175, u176, u177, u178, u179, u180, u181, u182, u183, u184, u185, u186, u187, u188, u189, u190, u191, u192, u193, u194, u195, u196, u197, u198, u199, u200, u201, u202, u203, u204, u205, u206, u207, u208], defers := [] } w3 := by
  have HQ := Lib.hid hQ
  have HP := Lib.hid hP
  have HA := Lib.hid hA
  have HAx := Lib.hid ha
  have HZ := Lib.hid hz
  have HM := Lib.hid hm
  clear hQ hP hA ha hz hm
  simp only [codeOf, Try.f3, Option.getD_some]
  obtain ⟨aV, cV, rfl⟩ := HP.out.row.form
  obtain ⟨q, hq⟩ : ∃ q, q = min m 20 := ⟨_, rfl⟩
  have hql : q = (zs.take 20).length := by rw [hq, List.length_take, ← HM.out]; omega
  have hmin : (if (20 : Int) < (m : Int) then (20 : Int) else (m : Int)) = (q : Int) := by rw [hq]; split <;> omega
  have hq20 : q ≤ 20 := by omega
  have hqm : q ≤ m := by omega
  have hqc : q ≤ cI := by omega
  have hmn : decide ((q : Int) < 0) = false := decide_eq_false (by omega)
  have HZ2 := Lib.hid ((HZ.out.take 20).bel HP.out.bel)
  have HZl := Lib.hid ((HZ.out.take 20).lt)
  have HQl := Lib.hid hql
  have hA := HA.out
  have a1 := hA.c1
  have a3 := hA.c3
  have hb := HP.out.bx
  have b0 := hb.c0
  have b1 := hb.c1
  have b2 := hb.c2
  clear hA hb hq hql
  by_cases hC : 0 ≤ C ∧ C < (n : Int)
  · obtain ⟨hC0, hCn⟩ := hC
    obtain ⟨c, rfl⟩ := Int.eq_ofNat_of_zero_le hC0
    have hcn : c < n := by omega
    have hcnt := HP.out.cnt hcn
    have hAd := radd_ok (last := last) (cap1 := cI) HP.out.row (by have := HP.out.len; omega) hC0 hCn HZ2.out (by rw [← HQl.out]; omega) hcnt
    have hRel := add_rel M c (zs.take 20) hcnt
    rw [← HQl.out] at hAd
    have HCn := Lib.hid hcn
    obtain ⟨E, hE⟩ : ∃ E : Int, E = if 64 < cntM M (c : Int) + q then 3 else 0 := ⟨_, rfl⟩
    obtain ⟨M', hM'⟩ : ∃ M', M' = M ++ ((zs.take 20).take (64 - cntM M (c : Int))).map (mkC (c : Int)) := ⟨_, rfl⟩
    rw [← hE, ← hM'] at hAd
    rw [← hM'] at hRel
    have hMI : MI M' n last := by rw [hM']; exact HP.out.mi.add hcn _
    have HAd := Lib.hid hAd
    have HRel := Lib.hid hRel
    have HMI := Lib.hid hMI
    have HE := Lib.hid hE
    clear hcn hcnt hAd hRel hMI hE hM'
    go_wp2_with fail
    with_reducible refine HAd.out.mono ?_
    rintro e w4 ⟨v', rfl, hr4, hv4, hc4⟩
    obtain ⟨av, cv, rfl⟩ := hr4.form
    unfold retC
    have hc5 := hc4.alloc (.cells #[.int .i64 (n : Int), .int .i64 last, (.slice av M'.length cv)] 30)
    have ht5 := Three.new w4 (.int .i64 (n : Int)) (.int .i64 last) (.slice av M'.length cv) 30
    obtain ⟨w5, hw5⟩ : ∃ W, W = w4.alloc (.cells #[.int .i64 (n : Int), .int .i64 last, (.slice av M'.length cv)] 30) := ⟨_, rfl⟩
    have hr5 : RowC w5 (.slice av M'.length cv) M' := by rw [hw5]; exact hr4.quiet ((Ch.refl [] w4).alloc _)
    rw [← hw5] at hc5 ht5
    have hX : top ≤ w4.heap.size := by have := HP.out.lc.hi; have := hc4.size; omega
    have hAP := (HP.out.quiet hc5).lc.add HCn.out (cap := cI) (zs := zs.take 20) (HZ2.out.ch hc5) (by rw [← HQl.out]; exact hqc) hcm (fun h x e k => by have := HZl.out h x e; have := HP.out.lo; have := k.1; omega)
    rw [fOf_len, ← HQl.out, ← HE.out, HRel.out] at hAP
    have HAP := Lib.hid hAP
    have HT5 := Lib.hid ht5
    have HC5 := Lib.hid hc5
    have HR5 := Lib.hid hr5
    have HV := Lib.hid (show ∀ g, (Value.slice av M'.length cv).ownBlock = some g → top ≤ g ∧ g ≠ b from fun g e => by have := hv4 g e; have := HP.out.lc.hi; have := HP.out.bx.lt; omega)
    have HA5 := Lib.hid (HA.out.ch hc5 (by simp))
    have HX := Lib.hid hX
    have a1 := HA5.out.c1
    rw [hw5] at a1
    clear hc4 hc5 ht5 hr4 hr5 hv4 hX hAP b0 b1 b2 a3
    go_frame
    go_wp2_with fail
    rw [← hw5]
    clear hw5
    with_reducible refine HAP.out.mono ?_
    rintro e w6 ⟨rfl, hl6, hc6⟩
    have ht6 := HT5.out.own HX.out hc6
    have hb6 := (HP.out.bx.ch HC5.out (by simp)).own HP.out.bt hc6
    have HPN := Lib.hid (HP.out.next HC5.out hc6 hl6 HR5.out HV.out HMI.out)
    have t0 := ht6.c0
    have t1 := ht6.c1
    have t2 := ht6.c2
    have b0 := hb6.c0
    have b1 := hb6.c1
    have b2 := hb6.c2
    have f0 := hb6.f0
    have f1 := hb6.f1
    have f2 := hb6.f2
    clear ht6 hb6 hl6 hc6 a1 HAP HT5 HC5 HR5 HV HA5 HX
    go_frame
    go_wp2
    exact HQ.out ⟨_, _, _, HPN.out⟩
  · have hC' : C < 0 ∨ (n : Int) ≤ C := by omega
    have HAd := Lib.hid (radd_bad HP.out.row (n : Int) last C hC' (.slice aI q cI))
    go_wp2_with fail
    with_reducible refine HAd.out.mono ?_
    rintro e w4 ⟨rfl, hc4⟩
    unfold retC
    have hc5 := hc4.alloc (.cells #[.int .i64 (n : Int), .int .i64 last, (.slice aV M.length cV)] 30)
    have ht5 := Three.new w4 (.int .i64 (n : Int)) (.int .i64 last) (.slice aV M.length cV) 30
    obtain ⟨w5, hw5⟩ : ∃ W, W = w4.alloc (.cells #[.int .i64 (n : Int), .int .i64 last, (.slice aV M.length cV)] 30) := ⟨_, rfl⟩
    rw [← hw5] at hc5 ht5
    have HAP := Lib.hid ((HP.out.quiet hc5).lc.add_out hC' (.slice aI q cI))
    have HA5 := Lib.hid (HA.out.ch hc5 (by simp))
    have a1 := HA5.out.c1
    rw [hw5] at a1
    have hb6 := HP.out.bx.ch hc5 (by simp)
    have HPN := Lib.hid (HP.out.next hc5 (ChP.refl _ _) (HP.out.quiet hc5).lc (HP.out.row.quiet hc5) HP.out.vt HP.out.mi)
    have HT5 := Lib.hid ht5
    have HB6 := Lib.hid hb6
    clear hc4 hc5 ht5 b0 b1 b2 a3 hb6
    go_frame
    go_wp2_with fail
    rw [← hw5]
    clear hw5
    with_reducible refine HAP.out.mono ?_
    rintro e w6 ⟨rfl, rfl⟩
    have t0 := HT5.out.c0
    have t1 := HT5.out.c1
    have t2 := HT5.out.c2
    have b0 := HB6.out.c0
    have b1 := HB6.out.c1
    have b2 := HB6.out.c2
    have f0 := HB6.out.f0
    have f1 := HB6.out.f1
    have f2 := HB6.out.f2
    clear a1 HAP HT5 HA5 HB6
    go_frame
    go_wp2
    exact HQ.out ⟨_, _, _, HPN.out⟩
end Go.Proofs.Ytnnliimjemmekaa

/-
  CallsPlays: a part (done).
-/
import Derived.Test.YtnnliimjemmekaaCbA
import Derived.Deep.RegionHeld3
import Derived.Deep.CutBlock
namespace Go.Proofs.Ytnnliimjemmekaa
open Go.RowKit Go.Maps Go.BigFrame
open rC (Th flat)

attribute [local go_sem] Oper.semAt_some

set_option maxRecDepth 100000 in
set_option maxHeartbeats 4000000 in
theorem plays_done {w w3 : World} {base top A n b : Nat} {last : Int} {M : List Cb} {v : Value} {a : Nat} {K C Gn : Int} {aI : Option Addr} {m cI : Nat} {zs : List Int} (hP : PS w w3 base top A n b last M v) (hA : Qa w3 a K C Gn (.slice aI m cI)) (ha : top ≤ a ∧ a ≠ b) (hz : IntsAt w aI zs) (hm : m = zs.length) (_ : m ≤ cI) (_ : cI ≤ 9223372036854775807)
    {u0 u1 u2 u3 u4 u6 u8 u10 u11 u12 u13 u14 u15 u16 u17 u18 u19 u20 u21 u22 u23 u24 u25 u26 u27 u28 u29 u30 u31 u32 u33 u34 u35 u36 u37 u38 u39 u40 u41 u42 u43 u44 u45 u46 u47 u48 u49 u50 u51 u52 u53 u54 u55 u56 u57 u58 u59 u60 u61 u62 u63 u64 u65 u66 u67 u68 u69 u70 u71 u72 u73 u74 u75 u76 u77 u78 u79 u80 u81 u82 u83 u84 u85 u86 u87 u88 u89 u90 u91 u92 u93 u94 u95 u96 u97 u98 u99 u100 u101 u102 u103 u104 u105 u106 u107 u108 u109 u110 u111 u112 u113 u114 u115 u116 u117 u118 u119 u120 u121 u122 u123 u124 u125 u126 u127 u128 u129 u130 u131 u132 u133 u134 u135 u136 u137 u138 u139 u140 u141 u142 u143 u144 u145 u146 u147 u148 u149 u150 u151 u152 u153 u154 u155 u156 u157 u158 u159 u160 u161 u162 u163 u164 u165 u166 u167 u168 u169 u170 u171 u172 u173 u174 u175 u176 u177 u178 u179 u180 u181 u182 u183 u184 u185 u186 u187 u188 u189 u190 u191 u192 u193 u194 u195 u196 u197 u198 u199 u200 u201 u202 u203 u204 u205 u206 u207 u208 : Value} {Q : Exit → Act → World → Prop}
    (hQ : ∀ ⦃x4 x15 x16 x55 x56 x57 x58 x59 x60 x61 x62 x63 x64 x65 x66 x67 x68 x69 : Value⦄ ⦃wq : World⦄, (∃ last' M' v', PS w wq base top A n b last' M' v') → Q .normal { tmps := #[u0, u1, u2, u3, x4, .pointer (some ⟨A, 0, none⟩), u6, .pointer (some ⟨b, 0, none⟩), u8, .pointer (some ⟨a, 0, none⟩), u10, u11, u12, u13, u14, x15, x16, u17, u18, u19, u20, u21, u22, u23, u24, u25, u26, u27, u28, u29, u30, u31, u32, u33, u34, u35, u36, u37, u38, u39, u40, u41, u42, u43, u44, u45, u46, u47, u48, u49, u50, u51, u52, u53, u54, x55, x56, x57, x58, x59, x60, x61, x62, x63, x64, x65, x66, x67, x68, x69, u70, u71, u72, u73, u74, u75, u76, u77, u78, u79, u80, u81, u82, u83, u84, u85, u86, u87, u88, u89, u90, u91, u92, u93, u94, u95, u96, u97, u98, u99, u100, u101, u102, u103, u104, u105, u106, u107, u108, u109, u110, u111, u112, u113, u114, u115, u116, u117, u118, u119, u120, u121, u122, u123, u124, u125, u126, u127, u128, u129, u130, u131, u132, u133, u134, u135, u136, u137, u138, u139, u140, u141, u142, u143, u144, u145, u146, u147, u148, u149, u150, u151, u152, u153, u154, u155, u156, u157, u158, u159, u160, u161, u162, u163, u164, u165, u166, u167, u168, u169, u170, u171, u172, u173, u174, u175, u176, u177, u178, u179, u180, u181, u182, u183, u184, u185, u186, u187, u188, u189, u190, u191, u192, u193, u194, u195, u196, u197, u198, u199, u200, u201, u202, u203, u204, u205, u206, u207, u208], defers := [] } wq) :
    Code.wp Try.prog (codeOf [1, 1, 1, 1, 1, 0, 1, 1, 1, 1, 0, 1, 1, 0, 1, 1, 1, 1, 1, 1] (Try.f3.body.getD .skip)) Q { tmps := #[u0, u1, u2, u3, u4, .pointer (some ⟨A, 0, none⟩), u6, .pointer (some ⟨b, 0, none⟩), u8, .pointer (some ⟨a, 0, none⟩), u10, u11, u12, u13, u14, u15, u16, u17, u18, u19, u20, u21, u22, u23, u24, u25, u26, u27, u28, u29, u30, u31, u32, u33, u34, u35, u36, u37, u38, u39, u40, u41, u42, u43, u44, u45, u46, u47, u48, u49, u50, u51, u52, u53, u54, u55, u56, u57, u58, u59, u60, u61, u62, u63, u64, u65, u66, u67, u68, u69, u70, u71, u72, u73, u74, u75, u76, u77, u78, u79, u80, u81, u82, u83, u84, u85, u86, u87, u88, u89, u90, u91, u92, u93, u94, u95, u96, u97, u98, u99, u100, u101, u102, u103, u104, u105, u106, u107, u108, u109, u110, u111, u112, u113, u114, u115, u116, u117, u118, u119, u120, u121, u122, u123, u124, u125, u126, u127, u128, u129, u130, u131, u132, u133, u134, u135, u136, u137, u138, u139, u140, u141, u142, u143, u144, u145, u146, u147, u148, u149, u150, u151, u152, u153, u154, u155, u156, u157, u158, u159, u160, u161, u162, u163, u164, u165, u166, u167, u168, u169, u170, u171, u172, u173, u174, u175, u176, u177, u178, u179, u180, u181, u182, u183, u184, u185, u186, u187, u188, u189, u190, u191, u192, u193, u194, u195, u196, u197, u198, u199, u200, u201, u202, u203, u204, u205, u206, u207, u208], defers := [] } w3 := by
  have HQ := Lib.hid hQ
  have HP := Lib.hid hP
  have HA := Lib.hid hA
  have HAx := Lib.hid ha
  have HZ := Lib.hid hz
  have HM := Lib.hid hm
  clear hQ hP hA ha hz hm
  simp only [codeOf, Try.f3, Option.getD_some]
  obtain ⟨aV, cV, rfl⟩ := HP.out.row.form
  have hA := HA.out
  have a2 := hA.c2
  have hb := HP.out.bx
  have b0 := hb.c0
  have b1 := hb.c1
  have b2 := hb.c2
  clear hA hb
  have hAd := rdone_any HP.out.row (by have := HP.out.len; omega) HP.out.lc.n64.2 last Gn
  obtain ⟨M', hM'⟩ : ∃ M', M' = M.filter (leftM Gn) := ⟨_, rfl⟩
  obtain ⟨L, hL⟩ : ∃ L, L = outM Gn M n := ⟨_, rfl⟩
  rw [← hL, ← hM'] at hAd
  have HAd := Lib.hid hAd
  have HRel := Lib.hid (show (fun i => (fOf M i).dropWhile (up Gn)) = fOf M' by funext i; rw [hM', done_rel HP.out.mi])
  have HMI := Lib.hid (show MI M' n last by rw [hM']; exact HP.out.mi.done _)
  have HL := Lib.hid (show outN Gn (fOf M) n = L by rw [hL, out_rel HP.out.mi])
  have HLl := Lib.hid (show L.length ≤ 1000000 by
    rw [hL]
    have h1 := outM_len Gn M n
    have h2 : n * M.length ≤ 64 * 4096 := Nat.mul_le_mul HP.out.lc.n64.2 HP.out.len
    omega)
  clear hAd hM' hL
  go_wp2_with fail
  with_reducible refine HAd.out.mono ?_
  rintro e w4 ⟨v', o, rfl, hr4, ho4, hv4, hc4⟩
  obtain ⟨av, cv, rfl⟩ := hr4.form
  unfold retC
  have hc5 := hc4.alloc (.cells #[.int .i64 (n : Int), .int .i64 last, (.slice av M'.length cv)] 30)
  have ht5 := Three.new w4 (.int .i64 (n : Int)) (.int .i64 last) (.slice av M'.length cv) 30
  obtain ⟨w5, hw5⟩ : ∃ W, W = w4.alloc (.cells #[.int .i64 (n : Int), .int .i64 last, (.slice av M'.length cv)] 30) := ⟨_, rfl⟩
  have hr5 : RowC w5 (.slice av M'.length cv) M' := by rw [hw5]; exact hr4.quiet ((Ch.refl [] w4).alloc _)
  have ho5 := ho4.alloc (.cells #[.int .i64 (n : Int), .int .i64 last, (.slice av M'.length cv)] 30)
  rw [← hw5] at hc5 ht5 ho5
  have HA5 := Lib.hid (HA.out.ch hc5 (by simp))
  have a2 := HA5.out.c2
  rw [hw5] at a2
  have hX : top ≤ w4.heap.size := by have := HP.out.lc.hi; have := hc4.size; omega
  have hAP := (HP.out.quiet hc5).lc.done Gn
  rw [HL.out, HRel.out] at hAP
  have HAP := Lib.hid hAP
  have HT5 := Lib.hid ht5
  have HC5 := Lib.hid hc5
  have HR5 := Lib.hid hr5
  have HO5 := Lib.hid ho5
  have HV := Lib.hid (show ∀ g, (Value.slice av M'.length cv).ownBlock = some g → top ≤ g ∧ g ≠ b from fun g e => by have := hv4 g e; have := HP.out.lc.hi; have := HP.out.bx.lt; omega)
  have HX := Lib.hid hX
  obtain ⟨ao, co, rfl⟩ := own_form ho4
  have HOt := Lib.hid (show ∀ g, (Value.slice ao L.length co).ownBlock = some g → top ≤ g from fun g e => by have := (ho4.lt g e).1; have := HP.out.lc.hi; omega)
  clear hc4 hc5 ht5 hr4 hr5 hv4 ho4 ho5 hX hAP b0 b1 b2
  go_frame
  go_wp2_with fail
  rw [← hw5]
  clear hw5
  with_reducible refine HAP.out.mono ?_
  rintro e w6 ⟨vp, rfl, hrow6, hl6, hc6⟩
  obtain ⟨ap, cp, rfl⟩ := own_form hrow6
  have ho6 := own_chP HO5.out hc6 (fun g e k => by have := HOt.out g e; have := k.2; omega)
  have HSm := Lib.hid (same_eq ap ao cp co L w6 (by have := HLl.out; omega) (ints_own hrow6).1 (ints_own ho6).1)
  have HT6 := Lib.hid (HT5.out.own HX.out hc6)
  have HB6 := Lib.hid ((HP.out.bx.ch HC5.out (by simp)).own HP.out.bt hc6)
  have HPN := Lib.hid (fun k => HP.out.next (w6 := w6.drewN k) HC5.out ⟨hc6.os, hc6.tape, hc6.output, hc6.size, hc6.block⟩ (hl6.quiet ((Ch.refl [] w6).drewN k)) HR5.out HV.out HMI.out)
  clear hrow6 hl6 hc6 ho6 a2 HAP HT5 HC5 HR5 HV HA5 HX HO5 HOt
  go_frame
  go_wp2_with fail
  with_reducible refine HSm.out.mono ?_
  rintro e w7 ⟨rfl, k, rfl⟩
  have ht6 := HT6.out.ch ((Ch.refl [] w6).drewN k) (by simp)
  have hb6 := HB6.out.ch ((Ch.refl [] w6).drewN k) (by simp)
  have HPk := Lib.hid (HPN.out k)
  have t0 := ht6.c0
  have t1 := ht6.c1
  have t2 := ht6.c2
  have b0 := hb6.c0
  have b1 := hb6.c1
  have b2 := hb6.c2
  have f0 := hb6.f0
  have f1 := hb6.f1
  have f2 := hb6.f2
  clear ht6 hb6 HPN HSm HT6 HB6
  go_frame
  go_wp2
  exact HQ.out ⟨_, _, _, HPk.out⟩
end Go.Proofs.Ytnnliimjemmekaa

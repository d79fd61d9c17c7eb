/-
  CallsPlays: a part (cpu).
-/
import Derived.Test.YtnnliimjemmekaaCbA
import Derived.Deep.RegionHeld3
import Derived.Deep.CutBlock
namespace Go.Proofs.Ytnnliimjemmekaa
open Go.RowKit Go.Maps Go.BigFrame
open rC (Th flat)

attribute [local go_sem] Oper.semAt_some

set_option maxRecDepth 100000 in
set_option maxHeartbeats 4000000 in
theorem plays_cpu {w w3 : World} {base top A n b : Nat} {last : Int} {M : List Cb} {v : Value} {c : Nat} (hP : PS w w3 base top A n b last M v) (hcn : c < n)
    {u0 u1 u2 u3 u4 u6 u8 u9 u10 u11 u12 u13 u14 u15 u16 u17 u18 u20 u21 u22 u23 u24 u25 u26 u27 u28 u29 u30 u31 u32 u33 u34 u35 u36 u37 u38 u39 u40 u41 u42 u43 u44 u45 u46 u47 u48 u49 u50 u51 u52 u53 u54 u55 u56 u57 u58 u59 u60 u61 u62 u63 u64 u65 u66 u67 u68 u69 u70 u71 u72 u73 u74 u75 u76 u77 u78 u79 u80 u81 u82 u83 u84 u85 u86 u87 u88 u89 u90 u91 u92 u93 u94 u95 u96 u97 u98 u99 u100 u101 u102 u103 u104 u105 u106 u107 u108 u109 u110 u111 u112 u113 u114 u115 u116 u117 u118 u119 u120 u121 u122 u123 u124 u125 u126 u127 u128 u129 u130 u131 u132 u133 u134 u135 u136 u137 u138 u139 u140 u141 u142 u143 u144 u145 u146 u147 u148 u149 u150 u151 u152 u153 u154 u155 u156 u157 u158 u159 u160 u161 u162 u163 u164 u165 u166 u167 u168 u169 u170 u171 u172 u173 u174 u175 u176 u177 u178 u179 u180 u181 u182 u183 u184 u185 u186 u187 u188 u189 u190 u191 u192 u193 u194 u195 u196 u197 u198 u199 u200 u201 u202 u203 u204 u205 u206 u207 u208 : Value} {Q : Exit → Act → World → Prop}
    (hQ : ∀ ⦃x4 x20 x21 x22 x152 x153 x154 x155 x156 x157 x158 x159 x160 x161 x162 x163 x164 x165 x166 x167 x168 x169 x170 x171 x172 x173 x174 x175 x176 x177 x178 x179 x180 x181 x182 x183 x184 x185 x186 x187 x188 x189 x190 x191 x192 x193 x194 x195 x196 x197 x198 x199 x200 x201 x202 x203 x204 x205 x206 x207 : Value⦄ ⦃wq : World⦄, PS w wq base top A n b last M v → Q .normal { tmps := #[u0, u1, u2, u3, x4, .pointer (some ⟨A, 0, none⟩), u6, .pointer (some ⟨b, 0, none⟩), u8, u9, u10, u11, u12, u13, u14, u15, u16, u17, u18, .int .i64 (c : Int), x20, x21, x22, u23, u24, u25, u26, u27, u28, u29, u30, u31, u32, u33, u34, u35, u36, u37, u38, u39, u40, u41, u42, u43, u44, u45, u46, u47, u48, u49, u50, u51, u52, u53, u54, u55, u56, u57, u58, u59, u60, u61, u62, u63, u64, u65, u66, u67, u68, u69, u70, u71, u72, u73, u74, u75, u76, u77, u78, u79, u80, u81, u82, u83, u84, u85, u86, u87, u88, u89, u90, u91, u92, u93, u94, u95, u96, u97, u98, u99, u100, u101, u102, u103, u104, u105, u106, u107, u108, u109, u110, u111, u112, u113, u114, u115, u116, u117, u118, u119, u120, u121, u122, u123, u124, u125, u126, u127, u128, u129, u130, u131, u132, u133, u134, u135, u136, u137, u138, u139, u140, u141, u142, u143, u144, u145, u146, u147, u148, u149, u150, u151, x152, x153, x154, x155, x156, x157, x158, x159, x160, x161, x162, x163, x164, x165, x166, x167, x168, x169, x170, x171, x172, x173, x174, x175, x176, x177, x178, x179, x180, x181, x182, x183, x184, x185, x186, x187, x188, x189, x190, x191, x192, x193, x194, x195, x196, x197, x198, x199, x200, x201, x202, x203, x204, x205, x206, x207, u208], defers := [] } wq) :
    Code.wp Try.prog (codeOf [1, 1, 1, 1, 1, 0, 1, 1, 1, 1, 0, 1, 1, 1, 1, 1, 1, 1, 1, 1, 0, 1] (Try.f3.body.getD .skip)) Q { tmps := #[u0, u1, u2, u3, u4, .pointer (some ⟨A, 0, none⟩), u6, .pointer (some ⟨b, 0, none⟩), u8, u9, u10, u11, u12, u13, u14, u15, u16, u17, u18, .int .i64 (c : Int), u20, u21, u22, u23, u24, u25, u26, u27, u28, u29, u30, u31, u32, u33, u34, u35, u36, u37, u38, u39, u40, u41, u42, u43, u44, u45, u46, u47, u48, u49, u50, u51, u52, u53, u54, u55, u56, u57, u58, u59, u60, u61, u62, u63, u64, u65, u66, u67, u68, u69, u70, u71, u72, u73, u74, u75, u76, u77, u78, u79, u80, u81, u82, u83, u84, u85, u86, u87, u88, u89, u90, u91, u92, u93, u94, u95, u96, u97, u98, u99, u100, u101, u102, u103, u104, u105, u106, u107, u108, u109, u110, u111, u112, u113, u114, u115, u116, u117, u118, u119, u120, u121, u122, u123, u124, u125, u126, u127, u128, u129, u130, u131, u132, u133, u134, u135, u136, u137, u138, u139, u140, u141, u142, u143, u144, u145, u146, u147, u148, u149, u150, u151, u152, u153, u154, u155, u156, u157, u158, u159, u160, u161, u162, u163, u164, u165, u166, u167, u168, u169, u170, u171, u172, u173, u174, u175, u176, u177, u178, u179, u180, u181, u182, u183, u184, u185, u186, u187, u188, u189, u190, u191, u192, u193, u194, u195, u196, u197, u198, u199, u200, u201, u202, u203, u204, u205, u206, u207, u208], defers := [] } w3 := by
  have HQ := Lib.hid hQ
  have HP := Lib.hid hP
  have HCn := Lib.hid hcn
  clear hQ hP hcn
  simp only [codeOf, Try.f3, Option.getD_some]
  obtain ⟨aV, cV, rfl⟩ := HP.out.row.form
  have HOf := Lib.hid (HP.out.lc.of HCn.out)
  have HQl := Lib.hid (fOf_len M c)
  have hq64 := HP.out.cnt HCn.out
  have hlm := HP.out.len
  obtain ⟨mM, hmM⟩ : ∃ l, l = M.length := ⟨_, rfl⟩
  have HMm := Lib.hid hmM
  obtain ⟨q, hq⟩ : ∃ q, q = cntM M (c : Int) := ⟨_, rfl⟩
  have HQq := Lib.hid hq
  rw [HQl.out, ← hq] at HOf
  rw [← hq] at hq64
  rw [← hmM] at hlm HP HQ
  clear hmM hq
  go_wp2_with fail
  with_reducible refine HOf.out.mono ?_
  rintro e w4 ⟨vx, rfl, hrow, hb4⟩
  obtain ⟨ax, cx, rfl⟩ := own_form hrow
  have HRow := Lib.hid hrow
  have HP4 := Lib.hid (HP.out.quiet (.of_below hb4))
  have hb2 := HP4.out.bx.c2
  clear hrow hb4
  go_frame
  go_wp2_with fail
  go_loopw [22, 21] (fun r u wr => ∃ k : Nat, k ≤ mM ∧ r = .int .i64 (k : Int) ∧ u = .int .i64 ((cntM (M.take k) (c : Int) : Nat) : Int) ∧ Ch [] w4 wr) (fun r _ _ => mM - (intOf r).toNat)
  case atStart => exact ⟨0, Nat.zero_le _, rfl, rfl, Ch.refl _ _⟩
  case round =>
    obtain ⟨k, hk, rfl, rfl, hch⟩ := hrel
    have hpk := HP4.out.quiet hch
    have HPk := Lib.hid hpk
    have HCh := Lib.hid hch
    have b2 := hpk.bx.c2
    by_cases hkm : k < mM
    · obtain ⟨x, hx⟩ : ∃ x, M[k]? = some x := ⟨_, List.getElem?_eq_getElem (by rw [← HMm.out]; exact hkm)⟩
      have hcl := hpk.row.cells hx
      obtain ⟨g, rfl, e0, e1, e2⟩ := hcl
      have hsn := cntM_snoc (M.take k) x (c : Int)
      rw [← take_snoc3 hx] at hsn
      have HSn := Lib.hid hsn
      have hlt : (k : Int) < (mM : Int) := by omega
      by_cases hxc : x.c = (c : Int)
      · have hat := fOf_at hx hxc
        have hatq : cntM (M.take k) (c : Int) < q := by
          have := (List.getElem?_eq_some_iff.1 hat).1
          rw [HQl.out, ← HQq.out] at this
          exact this
        obtain ⟨t, ht⟩ : ∃ t, t = cntM (M.take k) (c : Int) := ⟨_, rfl⟩
        rw [← ht] at hat hatq HSn ⊢
        have hrow := own_ch HRow.out hch (by simp)
        obtain ⟨gx, rfl, -, -, -, hcx⟩ := own_cells hrow 0 (by omega)
        obtain ⟨f0, f1⟩ := rC.flat_at _ _ _ hat
        have x0 : wr.cell? ⟨gx, t * 2, none⟩ = some (.int .i64 x.id) := (hcx _ (by omega)).trans f0
        have x1 : wr.cell? ⟨gx, t * 2 + 1, none⟩ = some (.int .i64 x.gen) := (hcx _ (by omega)).trans f1
        have HT := Lib.hid (show cntM (M.take (k + 1)) (c : Int) = t + 1 by rw [HSn.out, if_pos hxc])
        rw [hxc] at e0
        generalize x.id = xi at e1 x0
        generalize x.gen = xg at e2 x1
        have hge : decide ((t : Int) ≥ (q : Int)) = false := decide_eq_false (by omega)
        have hlt2 : (t : Int) < (q : Int) := by omega
        have t0 : (0 : Int) ≤ (t : Int) := by omega
        have k0 : (0 : Int) ≤ (k : Int) := by omega
        have n1 : (xi != xi) = false := by simp
        have n2 : (xg != xg) = false := by simp
        have n3 : ((c : Int) != (c : Int)) = false := by simp
        have hw1 : IntKind.i64.wrap ((t : Int) + 1) = (t : Int) + 1 := IntWalk.i64_in _ (by omega)
        clear hpk hch hx hsn hxc hat ht hrow hcx f0 f1 hb2
        go_wp2
        go_quiet (fail)
        go_wp2
        go_roundw
        case rel => exact ⟨k + 1, by omega, by go_num, by rw [HT.out]; rfl, HCh.out.drewN _⟩
        case measure => simp [intOf]; omega
      · have HT := Lib.hid (show cntM (M.take (k + 1)) (c : Int) = cntM (M.take k) (c : Int) by rw [HSn.out, if_neg hxc, Nat.add_zero])
        have hne : (x.c != (c : Int)) = true := by simpa using hxc
        generalize x.c = xc at e0 hne
        obtain ⟨t, ht⟩ : ∃ t, t = cntM (M.take k) (c : Int) := ⟨_, rfl⟩
        rw [← ht] at HT ⊢
        clear hpk hch hx hsn hxc hb2 ht HSn
        go_wp2
        go_roundw
        case rel => exact ⟨k + 1, by omega, by go_num, by rw [HT.out], HCh.out⟩
        case measure => simp [intOf]; omega
    · have hkm' : ¬ (k : Int) < (mM : Int) := by omega
      have e5 : cntM (M.take k) (c : Int) = q := by rw [HQq.out, List.take_of_length_le (by rw [← HMm.out]; omega)]
      rw [e5]
      have hqq : ((q : Int) != (q : Int)) = false := by simp
      clear hpk hch e5 hb2
      go_wp2
      exact HQ.out HPk.out
end Go.Proofs.Ytnnliimjemmekaa

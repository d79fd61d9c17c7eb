/-
  The law ArenaFinds: the freeing.
-/
import Derived.Test.YtdompamilgbnnaaArFB
namespace Go.Proofs.Ytdompamilgbnnaa
open Go.RowKit aT

attribute [local go_sem] Oper.semAt_some

set_option maxRecDepth 100000 in
set_option maxHeartbeats 4000000 in
theorem finds_free {S : Nat} {w w3 : World} {R k len2 cap2 : Nat} {a2 : Option Addr} {xs : List (Sl Th)} {a9 a10 a11 : Option Addr} {c9 c10 c11 : Nat} {es : List Ent} (hR : R3 w3 (R + 1) (.slice a9 es.length c9) (.slice a10 es.length c10) (.slice a11 es.length c11) es) (hSt : St S w w3 R xs) (hI : Inv xs es) (hF : k < len2 → ∃ b off F, a2 = some ⟨b, off, none⟩ ∧ w3.cell? ⟨b, off + k, none⟩ = some (.int .i64 F)) (hl60 : es.length ≤ 60)
    {u0 u1 u3 u4 u5 u6 u8 u13 u14 u15 u16 u17 u18 u19 u20 u21 u22 u23 u24 u25 u26 u27 u28 u29 u30 u31 u32 u33 u34 u35 u36 u37 u38 u39 u40 u41 u42 u43 u44 u45 u46 u47 u48 u49 u50 u51 u52 u53 u54 u55 u56 u57 u58 u59 u60 u61 u62 u63 u64 u65 u66 u67 u68 u69 u70 u71 u72 u73 u74 u75 u76 u77 u78 u79 u80 u81 u82 u83 u84 u85 u86 u87 u88 u89 u90 u91 u92 u93 u94 u95 u96 u97 u98 u99 u100 u101 u102 u103 u104 u105 u106 u107 u108 u109 u110 u111 u112 u113 u114 u115 u116 u117 u118 u119 u120 u121 u122 u123 u124 u125 u126 u127 u128 u129 u130 u131 u132 u133 u134 u135 u136 u137 u138 u139 u140 u141 u142 u143 u144 u145 u146 u147 u148 u149 u150 u151 u152 u153 u154 u155 u156 u157 u158 u159 u160 u161 u162 u163 u164 u165 u166 u167 u168 u169 u170 u171 u172 u173 u174 : Value} {Q : Exit → Act → World → Prop}
    (hQ : ∀ ⦃x6 x16 x17 x86 x87 x88 x89 x90 x91 x92 x93 x94 x95 x96 x97 x98 x99 x100 x101 x102 x103 x104 x105 x106 x107 x108 x109 x110 x111 x112 x113 x114 x115 x116 x117 x118 x119 x120 x121 x122 x123 x124 x125 x126 x127 x128 x129 x130 x131 : Value⦄ ⦃ys : List (Sl Th)⦄ ⦃fs : List Ent⦄ ⦃wq : World⦄, fs.length = es.length → Inv ys fs → R3 wq (R + 1) (.slice a9 es.length c9) (.slice a10 es.length c10) (.slice a11 es.length c11) fs → St S w wq R ys → Q .normal { tmps := #[u0, u1, .slice a2 len2 cap2, u3, u4, u5, x6, .pointer (some ⟨R, 0, none⟩), u8, .slice a9 es.length c9, .slice a10 es.length c10, .slice a11 es.length c11, .int .i64 (k : Int), u13, u14, u15, x16, x17, u18, u19, u20, u21, u22, u23, u24, u25, u26, u27, u28, u29, u30, u31, u32, u33, u34, u35, u36, u37, u38, u39, u40, u41, u42, u43, u44, u45, u46, u47, u48, u49, u50, u51, u52, u53, u54, u55, u56, u57, u58, u59, u60, u61, u62, u63, u64, u65, u66, u67, u68, u69, u70, u71, u72, u73, u74, u75, u76, u77, u78, u79, u80, u81, u82, u83, u84, u85, x86, x87, x88, x89, x90, x91, x92, x93, x94, x95, x96, x97, x98, x99, x100, x101, x102, x103, x104, x105, x106, x107, x108, x109, x110, x111, x112, x113, x114, x115, x116, x117, x118, x119, x120, x121, x122, x123, x124, x125, x126, x127, x128, x129, x130, x131, u132, u133, u134, u135, u136, u137, u138, u139, u140, u141, u142, u143, u144, u145, u146, u147, u148, u149, u150, u151, u152, u153, u154, u155, u156, u157, u158, u159, u160, u161, u162, u163, u164, u165, u166, u167, u168, u169, u170, u171, u172, u173, u174], defers := [] } wq) :
    Code.wp Try.prog (codeOf [1, 1, 1, 1, 1, 1, 0, 1, 0, 0, 1, 0, 0, 1, 1, 0] (Try.f5.body.getD .skip)) Q { tmps := #[u0, u1, .slice a2 len2 cap2, u3, u4, u5, u6, .pointer (some ⟨R, 0, none⟩), u8, .slice a9 es.length c9, .slice a10 es.length c10, .slice a11 es.length c11, .int .i64 (k : Int), u13, u14, u15, u16, u17, u18, u19, u20, u21, u22, u23, u24, u25, u26, u27, u28, u29, u30, u31, u32, u33, u34, u35, u36, u37, u38, u39, u40, u41, u42, u43, u44, u45, u46, u47, u48, u49, u50, u51, u52, u53, u54, u55, u56, u57, u58, u59, u60, u61, u62, u63, u64, u65, u66, u67, u68, u69, u70, u71, u72, u73, u74, u75, u76, u77, u78, u79, u80, u81, u82, u83, u84, u85, u86, u87, u88, u89, u90, u91, u92, u93, u94, u95, u96, u97, u98, u99, u100, u101, u102, u103, u104, u105, u106, u107, u108, u109, u110, u111, u112, u113, u114, u115, u116, u117, u118, u119, u120, u121, u122, u123, u124, u125, u126, u127, u128, u129, u130, u131, u132, u133, u134, u135, u136, u137, u138, u139, u140, u141, u142, u143, u144, u145, u146, u147, u148, u149, u150, u151, u152, u153, u154, u155, u156, u157, u158, u159, u160, u161, u162, u163, u164, u165, u166, u167, u168, u169, u170, u171, u172, u173, u174], defers := [] } w3 := by
  have HR := Lib.hid hR
  have HSt := Lib.hid hSt
  have HF := Lib.hid hF
  have HI := Lib.hid hI
  have HIv := Lib.hid hI
  have HQ := Lib.hid hQ
  clear hR hSt hF hI hQ
  simp only [codeOf, Try.f5, Option.getD_some]
  by_cases hlt : k < len2 ∧ 0 < es.length
  · obtain ⟨hlt, hpos⟩ := hlt
    obtain ⟨b, off, F, rfl, hcf⟩ := HF.out hlt
    have hk2 : (k : Int) < (len2 : Int) := by omega
    have hk0 : (0 : Int) ≤ (k : Int) := by omega
    have hkt : ((k : Int)).toNat = k := rfl
    have hU : 0 ≤ IntKind.u64.wrap F ∧ IntKind.u64.wrap F < 18446744073709551616 := by rw [IntKind.wrap_u64]; omega
    generalize hgU : IntKind.u64.wrap F = U at hU
    obtain ⟨hU0, hU1⟩ := hU
    have hm0 : IntKind.u64.wrap (es.length : Int) = (es.length : Int) := by rw [IntKind.wrap_u64]; omega
    obtain ⟨q, hq, hql⟩ : ∃ q : Nat, U % (es.length : Int) = (q : Int) ∧ q < es.length := by
      have h1 := Int.emod_nonneg U (show (es.length : Int) ≠ 0 by omega)
      have h2 := Int.emod_lt_of_pos U (show 0 < (es.length : Int) by omega)
      exact ⟨(U % (es.length : Int)).toNat, by omega, by omega⟩
    have hqt : U.tmod (es.length : Int) = (q : Int) := by rw [Int.tmod_eq_emod_of_nonneg hU0]; exact hq
    have hq64 : IntKind.i64.wrap (q : Int) = (q : Int) := IntWalk.i64_in _ (by omega)
    have hz : ((es.length : Int) == 0) = false := beq_false_of_ne (by omega)
    have hz2 : (es.length : Int) ≠ 0 := by omega
    have hpos2 : decide ((0 : Int) < (es.length : Int)) = true := decide_eq_true (by omega)
    have q0 : (0 : Int) ≤ (q : Int) := by omega
    have q1 : (q : Int) < (es.length : Int) := by omega
    have qt : ((q : Int)).toNat = q := rfl
    obtain ⟨e, g9, g10, g11, he, rfl, rfl, rfl, c0, c1, _, _, cb, _, _⟩ := HR.out.at' hql
    have hlt9 := HSt.out.z
    have HE := Lib.hid he
    have hsl := Lib.hid (HSt.out.alloc (.cells #[.int .i64 (e.slot : Int), .int .i64 (e.gen : Int)] 33))
    have HF4 := Lib.hid (Box2.new w3 (.int .i64 (e.slot : Int)) (.int .i64 (e.gen : Int)) 33)
    have HS4 := Lib.hid (show S < w3.heap.size by have := HSt.out.r; have := HSt.out.z; omega)
    have HR4 := Lib.hid (HR.out.ch (S := []) ((Ch.refl [] w3).alloc (.cells #[.int .i64 (e.slot : Int), .int .i64 (e.gen : Int)] 33)) (by simp))
    have HRS := Lib.hid (HSt.out.r)
    clear he hlt9 hq
    go_wp2_with fail
    with_reducible refine (free_st hsl.out (e.slot : Int) (e.gen : Int) _ _ HF4.out HS4.out).mono ?_
    rintro ee w5 ⟨rfl, h5, hc5⟩
    have HR5 := Lib.hid (HR4.out.ch hc5 (by have := HRS.out; simp; omega))
    have H5 := Lib.hid h5
    clear h5 hc5 c0 c1 cb hsl HF4 HS4 HR4
    obtain ⟨e', _, _, g', he', h9, h10, hg', _, _, _, _, cb, fb, hD⟩ := HR5.out.at' hql
    cases hg'
    clear h9 h10
    obtain rfl : e = e' := by have := HE.out.symm.trans he'; simpa using this
    have HG := Lib.hid (HR5.out.gone he')
    have HS6 := Lib.hid (H5.out.grown (grown_set w5 g11 q (.bool true)) (fun j e => by cases e; exact hD))
    have HI := Lib.hid (HI.out.free he')
    cases hgn : e.gone with
    | true =>
      have hE := HIv.out.stale he' hgn
      rw [hE]
      rw [hgn] at cb
      clear he' hE hgn
      go_wp2_with fail
      exact HQ.out (ys := freeL xs (e.slot : Int) (e.gen : Int)) (fs := es.set q { e with gone := true }) (by simp) HI.out HG.out HS6.out
    | false =>
      have hE := (HIv.out.found he' hgn).1
      rw [hE]
      rw [hgn] at cb
      clear he' hE hgn
      go_wp2_with fail
      exact HQ.out (ys := freeL xs (e.slot : Int) (e.gen : Int)) (fs := es.set q { e with gone := true }) (by simp) HI.out HG.out HS6.out
  · have hcase : (k < len2 ∧ es.length = 0) ∨ ¬ k < len2 := by omega
    rcases hcase with ⟨h1, h2⟩ | h1
    · have hk2 : (k : Int) < (len2 : Int) := by omega
      obtain rfl : es = [] := List.eq_nil_of_length_eq_zero h2
      clear hlt h2
      go_wp2_with fail
      exact HQ.out (ys := xs) (fs := []) rfl HIv.out HR.out HSt.out
    · have hk2 : decide ((k : Int) < (len2 : Int)) = false := by simp; omega
      clear hlt
      go_wp2_with fail
      exact HQ.out (ys := xs) (fs := es) rfl HIv.out HR.out HSt.out
end Go.Proofs.Ytdompamilgbnnaa

/-
  CallsOnce: a part (one).
-/
import Derived.Test.YtnnliimjemmekaaCoA
import Derived.Deep.RegionHeld3
import Derived.Deep.CutBlock
namespace Go.Proofs.Ytnnliimjemmekaa
open Go.RowKit Go.Maps Go.BigFrame

attribute [local go_sem] Oper.semAt_some

set_option maxRecDepth 100000 in
set_option maxHeartbeats 4000000 in
theorem once_one {w3 : World} {X9 X10 X11 n k c j : Nat} {gen : Int} {g : Nat → Int} {t : Nat → Bool} {la : Nat → Int} {ao : Option Addr} {lo co : Nat} (hA : Ars w3 X9 X10 X11 t g la) (hn : n ≤ 60) (hco : ∃ go, ao = some ⟨go, 0, none⟩ ∧ w3.cell? ⟨go, j, none⟩ = some (.int .i64 ((k * 4 + c : Nat) : Int))) (hj : j < lo) (hc : c < 4) (hk1 : 1 ≤ k) (hkn : k ≤ n) (hg1 : 1 ≤ g k) (hg2 : g k ≤ gen - 1) (htk : t k = false) (hlk : la c < (k : Int)) (hge : 0 ≤ gen) (hge2 : gen ≤ 60)
    {u0 u1 u2 u3 u4 u5 u6 u7 u8 u14 u15 u16 u19 u20 u21 u22 u23 u24 u25 u26 u27 u28 u29 u30 u31 u32 u33 u34 u35 u36 u37 u38 u39 u40 u41 u42 u43 u44 u45 u46 u47 u48 u49 u50 u51 u52 u53 u54 u55 u56 u57 u58 u59 u60 u61 u62 u63 u64 u65 u66 u67 u68 u69 u70 u71 u72 u73 u74 u75 u76 u77 u78 u79 u80 u81 u82 u83 u84 u85 u86 u87 u88 u89 u90 u91 u92 u93 u94 u95 u96 u97 u98 u99 u100 u101 u102 u103 u104 u105 u106 u107 u108 u109 u110 u111 u112 u113 u114 u115 u116 u117 u118 u119 u120 u121 u122 u123 u124 u125 u126 u127 u128 u129 u130 u131 u132 u133 u134 u135 u136 u137 u138 u139 u140 u141 u142 u143 u144 u145 u146 u147 u148 u149 u150 u151 u152 u153 u154 u155 u156 u157 u158 u159 u160 u161 u162 u163 u164 u165 u166 u167 u168 u169 u170 u171 u172 u173 u174 u175 u176 u177 u178 u179 u180 : Value} {Q : Exit → Act → World → Prop}
    (hQ : ∀ ⦃x6 x19 x20 x104 x105 x106 x107 x108 x109 x110 x111 x112 x113 x114 x115 x116 x117 x118 x119 x120 x121 x122 x123 x124 x125 x126 x127 x128 x129 x130 x131 x132 x133 x134 x135 x136 x137 x138 x139 x140 x141 x142 x143 x144 x145 x146 x147 x148 x149 x150 x151 x152 x153 x154 x155 x156 : Value⦄ ⦃wq : World⦄, (Ars wq X9 X10 X11 (fun i => if i = k then true else t i) g (fun i => if i = c then (k : Int) else la i) ∧ Ch [X9, X11] w3 wq) → Q .normal { tmps := #[u0, u1, u2, u3, u4, u5, x6, u7, u8, .pointer (some ⟨X9, 0, none⟩), .pointer (some ⟨X10, 0, none⟩), .pointer (some ⟨X11, 0, none⟩), .int .i64 gen, .int .i64 (n : Int), u14, u15, u16, .slice ao lo co, .int .i64 (j : Int), x19, x20, u21, u22, u23, u24, u25, u26, u27, u28, u29, u30, u31, u32, u33, u34, u35, u36, u37, u38, u39, u40, u41, u42, u43, u44, u45, u46, u47, u48, u49, u50, u51, u52, u53, u54, u55, u56, u57, u58, u59, u60, u61, u62, u63, u64, u65, u66, u67, u68, u69, u70, u71, u72, u73, u74, u75, u76, u77, u78, u79, u80, u81, u82, u83, u84, u85, u86, u87, u88, u89, u90, u91, u92, u93, u94, u95, u96, u97, u98, u99, u100, u101, u102, u103, x104, x105, x106, x107, x108, x109, x110, x111, x112, x113, x114, x115, x116, x117, x118, x119, x120, x121, x122, x123, x124, x125, x126, x127, x128, x129, x130, x131, x132, x133, x134, x135, x136, x137, x138, x139, x140, x141, x142, x143, x144, x145, x146, x147, x148, x149, x150, x151, x152, x153, x154, x155, x156, u157, u158, u159, u160, u161, u162, u163, u164, u165, u166, u167, u168, u169, u170, u171, u172, u173, u174, u175, u176, u177, u178, u179, u180], defers := [] } wq) :
    Code.wp Try.prog (codeOf [1, 1, 1, 1, 1, 1, 1, 0, 1, 1, 1, 1, 0, 1, 1, 1, 1, 1, 1, 1, 0, 1, 1, 1, 1, 0, 1] (Try.f4.body.getD .skip)) Q { tmps := #[u0, u1, u2, u3, u4, u5, u6, u7, u8, .pointer (some ⟨X9, 0, none⟩), .pointer (some ⟨X10, 0, none⟩), .pointer (some ⟨X11, 0, none⟩), .int .i64 gen, .int .i64 (n : Int), u14, u15, u16, .slice ao lo co, .int .i64 (j : Int), u19, u20, u21, u22, u23, u24, u25, u26, u27, u28, u29, u30, u31, u32, u33, u34, u35, u36, u37, u38, u39, u40, u41, u42, u43, u44, u45, u46, u47, u48, u49, u50, u51, u52, u53, u54, u55, u56, u57, u58, u59, u60, u61, u62, u63, u64, u65, u66, u67, u68, u69, u70, u71, u72, u73, u74, u75, u76, u77, u78, u79, u80, u81, u82, u83, u84, u85, u86, u87, u88, u89, u90, u91, u92, u93, u94, u95, u96, u97, u98, u99, u100, u101, u102, u103, u104, u105, u106, u107, u108, u109, u110, u111, u112, u113, u114, u115, u116, u117, u118, u119, u120, u121, u122, u123, u124, u125, u126, u127, u128, u129, u130, u131, u132, u133, u134, u135, u136, u137, u138, u139, u140, u141, u142, u143, u144, u145, u146, u147, u148, u149, u150, u151, u152, u153, u154, u155, u156, u157, u158, u159, u160, u161, u162, u163, u164, u165, u166, u167, u168, u169, u170, u171, u172, u173, u174, u175, u176, u177, u178, u179, u180], defers := [] } w3 := by
  have HQ := Lib.hid hQ
  have HA := Lib.hid hA
  clear hQ hA
  simp only [codeOf, Try.f4, Option.getD_some]
  obtain ⟨go, rfl, hcell⟩ := hco
  have hjl : (j : Int) < (lo : Int) := by omega
  have hj0 : (0 : Int) ≤ (j : Int) := by omega
  obtain ⟨z, hz⟩ : ∃ z : Int, z = ((k * 4 + c : Nat) : Int) := ⟨_, rfl⟩
  rw [← hz] at hcell
  have hq : z.tdiv 4 = (k : Int) := by rw [Int.tdiv_eq_ediv_of_nonneg (by omega)]; omega
  have hr : z.tmod 4 = (c : Int) := by rw [Int.tmod_eq_emod_of_nonneg (by omega)]; omega
  have hwk : IntKind.i64.wrap (k : Int) = (k : Int) := IntWalk.i64_in _ (by omega)
  have hwc : IntKind.i64.wrap (c : Int) = (c : Int) := IntWalk.i64_in _ (by omega)
  have hwg : IntKind.i64.wrap (gen - 1) = gen - 1 := IntWalk.i64_in _ (by omega)
  have hc0 : decide ((c : Int) < 0) = false := decide_eq_false (by omega)
  have hk0 : decide ((k : Int) < 1) = false := decide_eq_false (by omega)
  have hkn' : decide ((k : Int) > (n : Int)) = false := decide_eq_false (by omega)
  have hk61 : (k : Int) < 61 := by omega
  have hkp : (0 : Int) ≤ (k : Int) := by omega
  have hcp : (0 : Int) ≤ (c : Int) := by omega
  have hc4 : (c : Int) < 4 := by omega
  have g9 := HA.out.a9.c k (by omega)
  have g10 := HA.out.a10.c k (by omega)
  have g11 := HA.out.a11.c c hc
  have f9 := HA.out.a9.fr k
  have f11 := HA.out.a11.fr c
  have e9 : tb t k = 0 := by unfold tb; rw [htk]; rfl
  rw [e9] at g9
  obtain ⟨gk, hgk⟩ : ∃ y, y = g k := ⟨_, rfl⟩
  obtain ⟨lk, hlk2⟩ : ∃ y, y = la c := ⟨_, rfl⟩
  rw [← hgk] at g10 hg1 hg2
  rw [← hlk2] at g11 hlk
  have d1 : (gk == 0) = false := beq_false_of_ne (by omega)
  have d2 : decide (gk > gen - 1) = false := decide_eq_false (by omega)
  have d3 : decide ((k : Int) ≤ lk) = false := decide_eq_false (by omega)
  have hne := HA.out.n11
  clear hz hgk hlk2 e9 htk hg1 hg2
  go_wp2_with fail
  go_quiet (fail)
  go_wp2
  have hch : Ch [X9, X11] w3 (((w3.drewN nq).setCell ⟨X9, k, none⟩ (.int .i64 1)).setCell ⟨X11, c, none⟩ (.int .i64 (k : Int))) := (((Ch.refl [X9, X11] w3).drewN nq).setCell (p := ⟨X9, k, none⟩) (by simp) _).setCell (p := ⟨X11, c, none⟩) (by simp) _
  have ha := HA.out.quiet ((Ch.refl [] w3).drewN nq)
  have h1 : Ch [X9] (w3.drewN nq) ((w3.drewN nq).setCell ⟨X9, k, none⟩ (.int .i64 1)) := (Ch.refl [X9] _).setCell (p := ⟨X9, k, none⟩) (by simp) _
  have h2 : Ch [X11] ((w3.drewN nq).setCell ⟨X9, k, none⟩ (.int .i64 1)) (((w3.drewN nq).setCell ⟨X9, k, none⟩ (.int .i64 1)).setCell ⟨X11, c, none⟩ (.int .i64 (k : Int))) := (Ch.refl [X11] _).setCell (p := ⟨X11, c, none⟩) (by simp) _
  refine HQ.out ⟨⟨((ha.a9.set k 1 (by omega)).ch (by decide) h2 (by simpa using HA.out.n11)).congr (fun i hi => ?_), (ha.a10.ch (by decide) h1 (by simpa using HA.out.n9.symm)).ch (by decide) h2 (by simpa using HA.out.n10), (ha.a11.ch (by decide) h1 (by simpa using HA.out.n11.symm)).set c (k : Int) hc, HA.out.n9, HA.out.n10, HA.out.n11⟩, hch⟩
  unfold tb
  by_cases e : i = k
  · simp [e]
  · simp [e]
end Go.Proofs.Ytnnliimjemmekaa

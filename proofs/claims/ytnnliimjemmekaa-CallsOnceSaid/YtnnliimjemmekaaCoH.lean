/-
  CallsOnce: a part (tl).
-/
import Derived.Test.YtnnliimjemmekaaCoE
import Derived.Test.YtnnliimjemmekaaCoG
import Derived.Deep.RegionHeld3
import Derived.Deep.CutBlock
namespace Go.Proofs.Ytnnliimjemmekaa
open Go.RowKit Go.Maps Go.BigFrame

attribute [local go_sem] Oper.semAt_some

set_option maxRecDepth 100000 in
set_option maxHeartbeats 4000000 in
theorem once_tl {w w3 : World} {base top A X9 X10 X11 n : Nat} {gen : Int} {C : Nat → Nat} {g : Nat → Int} {t : Nat → Bool} {la : Nat → Int} (hO : OS w w3 base top A X9 X10 X11 n gen C g t la) (hn : n ≤ 60)
    {u0 u1 u2 u3 u4 u5 u6 u8 u14 u15 u16 u17 u18 u19 u20 u21 u22 u23 u24 u25 u26 u27 u28 u29 u30 u31 u32 u33 u34 u35 u36 u37 u38 u39 u40 u41 u42 u43 u44 u45 u46 u47 u48 u49 u50 u51 u52 u53 u54 u55 u56 u57 u58 u59 u60 u61 u62 u63 u64 u65 u66 u67 u68 u69 u70 u71 u72 u73 u74 u75 u76 u77 u78 u79 u80 u81 u82 u83 u84 u85 u86 u87 u88 u89 u90 u91 u92 u93 u94 u95 u96 u97 u98 u99 u100 u101 u102 u103 u104 u105 u106 u107 u108 u109 u110 u111 u112 u113 u114 u115 u116 u117 u118 u119 u120 u121 u122 u123 u124 u125 u126 u127 u128 u129 u130 u131 u132 u133 u134 u135 u136 u137 u138 u139 u140 u141 u142 u143 u144 u145 u146 u147 u148 u149 u150 u151 u152 u153 u154 u155 u156 u157 u158 u159 u160 u161 u162 u163 u164 u165 u166 u167 u168 u169 u170 u171 u172 u173 u174 u175 u176 u177 u178 u179 u180 : Value} {Q : Exit → Act → World → Prop}
    (hQ : ∀ ⦃x6 x17 x18 x19 x20 x21 x94 x95 x96 x97 x98 x99 x100 x101 x102 x103 x104 x105 x106 x107 x108 x109 x110 x111 x112 x113 x114 x115 x116 x117 x118 x119 x120 x121 x122 x123 x124 x125 x126 x127 x128 x129 x130 x131 x132 x133 x134 x135 x136 x137 x138 x139 x140 x141 x142 x143 x144 x145 x146 x147 x148 x149 x150 x151 x152 x153 x154 x155 x156 x157 x158 x159 x160 x161 x162 x163 x164 x165 x166 x167 x168 x169 x170 x171 x172 x173 x174 x175 x176 x177 x178 x179 : Value⦄ ⦃wq : World⦄, (∃ t' la', OS w wq base top A X9 X10 X11 n gen C g t' la') → Q .normal { tmps := #[u0, u1, u2, u3, u4, u5, x6, .pointer (some ⟨A, 0, none⟩), u8, .pointer (some ⟨X9, 0, none⟩), .pointer (some ⟨X10, 0, none⟩), .pointer (some ⟨X11, 0, none⟩), .int .i64 gen, .int .i64 (n : Int), u14, u15, u16, x17, x18, x19, x20, x21, u22, u23, u24, u25, u26, u27, u28, u29, u30, u31, u32, u33, u34, u35, u36, u37, u38, u39, u40, u41, u42, u43, u44, u45, u46, u47, u48, u49, u50, u51, u52, u53, u54, u55, u56, u57, u58, u59, u60, u61, u62, u63, u64, u65, u66, u67, u68, u69, u70, u71, u72, u73, u74, u75, u76, u77, u78, u79, u80, u81, u82, u83, u84, u85, u86, u87, u88, u89, u90, u91, u92, u93, x94, x95, x96, x97, x98, x99, x100, x101, x102, x103, x104, x105, x106, x107, x108, x109, x110, x111, x112, x113, x114, x115, x116, x117, x118, x119, x120, x121, x122, x123, x124, x125, x126, x127, x128, x129, x130, x131, x132, x133, x134, x135, x136, x137, x138, x139, x140, x141, x142, x143, x144, x145, x146, x147, x148, x149, x150, x151, x152, x153, x154, x155, x156, x157, x158, x159, x160, x161, x162, x163, x164, x165, x166, x167, x168, x169, x170, x171, x172, x173, x174, x175, x176, x177, x178, x179, u180], defers := [] } wq) :
    Code.wp Try.prog (codeOf [1, 1, 1, 1, 1, 1, 1, 0, 1, 1, 1, 1, 0, 1, 1, 1, 1, 1, 1] (Try.f4.body.getD .skip)) Q { tmps := #[u0, u1, u2, u3, u4, u5, u6, .pointer (some ⟨A, 0, none⟩), u8, .pointer (some ⟨X9, 0, none⟩), .pointer (some ⟨X10, 0, none⟩), .pointer (some ⟨X11, 0, none⟩), .int .i64 gen, .int .i64 (n : Int), u14, u15, u16, u17, u18, u19, u20, u21, u22, u23, u24, u25, u26, u27, u28, u29, u30, u31, u32, u33, u34, u35, u36, u37, u38, u39, u40, u41, u42, u43, u44, u45, u46, u47, u48, u49, u50, u51, u52, u53, u54, u55, u56, u57, u58, u59, u60, u61, u62, u63, u64, u65, u66, u67, u68, u69, u70, u71, u72, u73, u74, u75, u76, u77, u78, u79, u80, u81, u82, u83, u84, u85, u86, u87, u88, u89, u90, u91, u92, u93, u94, u95, u96, u97, u98, u99, u100, u101, u102, u103, u104, u105, u106, u107, u108, u109, u110, u111, u112, u113, u114, u115, u116, u117, u118, u119, u120, u121, u122, u123, u124, u125, u126, u127, u128, u129, u130, u131, u132, u133, u134, u135, u136, u137, u138, u139, u140, u141, u142, u143, u144, u145, u146, u147, u148, u149, u150, u151, u152, u153, u154, u155, u156, u157, u158, u159, u160, u161, u162, u163, u164, u165, u166, u167, u168, u169, u170, u171, u172, u173, u174, u175, u176, u177, u178, u179, u180], defers := [] } w3 := by
  have HQ := Lib.hid hQ
  have HO := Lib.hid hO
  clear hQ hO
  simp only [codeOf, Try.f4, Option.getD_some]
  have hge := HO.out.on.gen0
  have hg60 : gen ≤ 60 := by omega
  obtain ⟨p, hp⟩ : ∃ p, p = gen - 1 := ⟨_, rfl⟩
  have hDn := HO.out.lc.done (gen - 1)
  rw [← hp] at hDn
  have hout := outN_told HO.out.on p
  obtain ⟨L, hL⟩ : ∃ L, L = toldN p C g t n := ⟨_, rfl⟩
  have hLl := toldN_len HO.out.on p
  rw [← hL] at hout hLl
  rw [hout, List.length_map] at hDn
  have HL := Lib.hid hL
  have HP := Lib.hid hp
  have HDn := Lib.hid hDn
  have hwg : IntKind.i64.wrap (gen - 1) = p := by rw [hp]; exact IntWalk.i64_in _ (by omega)
  clear hDn hout hL hp
  refine wp_seq_k (fun K1 hK1 => ?_)
  have HK1 := Lib.hid hK1
  clear hK1
  go_wp2_with fail
  with_reducible refine HDn.out.mono ?_
  rintro e w4 ⟨v, rfl, hrow, hl4, hc4⟩
  obtain ⟨ao, co, rfl⟩ := own_form hrow
  have HRow := Lib.hid hrow
  have HL4 := Lib.hid hl4
  have HC4 := Lib.hid hc4
  have HA4 := Lib.hid (HO.out.ar.own HO.out.t9 HO.out.t10 HO.out.t11 hc4)
  clear hrow hl4 hc4 HDn hwg
  obtain ⟨lo, hlo⟩ : ∃ lo, lo = L.length := ⟨_, rfl⟩
  have HLo := Lib.hid hlo
  rw [← hlo] at HRow hLl ⊢
  clear hlo
  go_frame
  go_wp2_with fail
  refine HK1.out _ _ ?_
  clear HK1
  refine wp_seq_k (fun K2 hK2 => ?_)
  have HK2 := Lib.hid hK2
  clear hK2
  go_wp2_with fail
  go_loopw [18] (fun r wr => ∃ (j : Nat) (lj : Nat → Int), j ≤ lo ∧ r = .int .i64 (j : Int) ∧ Ars wr X9 X10 X11 (tJ p C g t n j) g lj ∧ Ch [X9, X11] w4 wr ∧ (∀ c, c < 4 → 0 ≤ lj c ∧ lj c ≤ (n : Int)) ∧ ∀ i, 1 ≤ i → i ≤ n → (tJ p C g t n j i = true ↔ (i : Int) ≤ lj (C i))) (fun r _ => lo - (intOf r).toNat)
  case atStart => exact ⟨0, la, Nat.zero_le _, rfl, by rw [tJ_zero]; exact HA4.out, Ch.refl _ _, HO.out.on.la0, by rw [tJ_zero]; exact HO.out.on.tl⟩
  case round =>
    obtain ⟨j, lj, hj, rfl, har, hch, hlj, htl⟩ := hrel
    have HAr := Lib.hid har
    have HCh := Lib.hid hch
    have HLj := Lib.hid hlj
    have HTl := Lib.hid htl
    clear har hlj
    by_cases hjl : j < lo
    · have hjL : j < L.length := by rw [← HLo.out]; exact hjl
      obtain ⟨k, hk⟩ : ∃ k, L[j]? = some k := ⟨_, List.getElem?_eq_getElem hjL⟩
      have hst := told_step HO.out.on (by rw [← HL.out]; exact hk) htl
      obtain ⟨⟨⟨hk1, hkn⟩, ⟨hg1, hg2⟩, htk, hlk⟩, hs1, hs2⟩ := hst
      have hrow := own_ch HRow.out hch (by
        intro i hi
        have h9 := HO.out.ar.a9.lt (by decide)
        have h11 := HO.out.ar.a11.lt (by decide)
        simp at hi
        rcases hi with rfl | rfl
        · exact h9
        · exact h11)
      obtain ⟨go, hgo, -, -, -, hcs⟩ := own_cells hrow 0 (by omega)
      have hcell : wr.cell? ⟨go, j, none⟩ = some (.int .i64 ((k * 4 + C k : Nat) : Int)) := by
        rw [hcs j (by omega), List.getElem?_map, List.getElem?_map, hk]
        rfl
      have hlt : (j : Int) < (lo : Int) := by omega
      have HS1 := Lib.hid hs1
      have HS2 := Lib.hid hs2
      clear hch htl hk hs1 hs2 hrow hcs hjL
      go_upto_block 5 with (fail)
      refine wp_block ?_
      refine once_one HAr.out hn ⟨go, hgo, hcell⟩ hjl (HO.out.on.c4 k) hk1 hkn hg1 (by rw [← HP.out]; exact hg2) htk hlk hge.1 hg60 ?_
      intro y6 y19 y20 y104 y105 y106 y107 y108 y109 y110 y111 y112 y113 y114 y115 y116 y117 y118 y119 y120 y121 y122 y123 y124 y125 y126 y127 y128 y129 y130 y131 y132 y133 y134 y135 y136 y137 y138 y139 y140 y141 y142 y143 y144 y145 y146 y147 y148 y149 y150 y151 y152 y153 y154 y155 y156 wq ⟨ha, hc⟩
      have HA' := Lib.hid ha
      have HC' := Lib.hid hc
      clear ha hc
      simp only [Exit.inBlock]
      go_wp2_with fail
      go_roundw
      case rel =>
        refine ⟨j + 1, (fun c => if c = C k then (k : Int) else lj c), by omega, by go_num, ?_, HCh.out.trans HC'.out, fun c hc => ?_, HS2.out⟩
        · rw [HS1.out]; exact HA'.out
        · by_cases e : c = C k
          · show 0 ≤ (if c = C k then (k : Int) else lj c) ∧ (if c = C k then (k : Int) else lj c) ≤ (n : Int)
            rw [if_pos e]; omega
          · show 0 ≤ (if c = C k then (k : Int) else lj c) ∧ (if c = C k then (k : Int) else lj c) ≤ (n : Int)
            rw [if_neg e]; exact HLj.out c hc
      case measure => simp [intOf]; omega
    · have hlt : ¬ (j : Int) < (lo : Int) := by omega
      obtain rfl : j = lo := by omega
      have hall := told_all (p := p) HO.out.on HLj.out (by rw [← HL.out, ← HLo.out]; exact HTl.out)
      rw [← HL.out, ← HLo.out] at hall
      obtain ⟨h1, h2, h3⟩ := hall
      have HN := Lib.hid h1
      have hl5 := HL4.out
      rw [h2] at hl5
      have HL5 := Lib.hid hl5
      have H3 := Lib.hid h3
      clear h1 h2 h3 hch htl hl5
      go_wp2_with fail
      refine HK2.out _ _ ?_
      refine once_fin HAr.out hn (by rw [← HP.out]; exact H3.out) hge.1 hg60 ?_
      intro z6 z21 z157 z158 z159 z160 z161 z162 z163 z164 z165 z166 z167 z168 z169 z170 z171 z172 z173 z174 z175 z176 z177 z178 z179 wq hwq
      subst hwq
      have hb4 := chP_bel HC4.out HO.out.bel HO.out.lo
      have hin := HL5.out.inA
      exact HQ.out ⟨_, _, HL5.out.chP (.of HCh.out (S := fun k => k = X9 ∨ k = X11) (by simp)) (fun k e q => by have := q.2; have := HO.out.t9; have := HO.out.t11; omega), HAr.out, HN.out,
        hb4.trans (HCh.out.below _ (fun k hk => by
          simp at hk
          have h1 := HO.out.t9
          have h2 := HO.out.t11
          have h3 := HO.out.lo
          have h4 := hin.1
          have h5 := hin.2
          rcases hk with rfl | rfl <;> omega) hb4.size), HO.out.lo, HO.out.t9, HO.out.t10, HO.out.t11⟩
end Go.Proofs.Ytnnliimjemmekaa

/-
  The law ArenaFinds: what was put is told of in three rows (one statement whose operations come in any order).
-/
import Derived.Laws.OwnMore
import Derived.Deep.RegionLaw
import Derived.Maps.AppendAt
import Derived.Test.YtdompamilgbnnaaArFB
namespace Go.Proofs.Ytdompamilgbnnaa
open Go.RowKit aT

attribute [local go_sem] Oper.semAt_some

/-- append to a row of the call's own, as one step of a region that draws. -/
theorem step_append_own {P : Program} {w : World} {ops : Array Oper} {o : Oper} {a : Act} {K : Act → World → Prop} {Q : Exit → Act → World → Prop} {E : Prop} (hgd : o.guard = none) (s x : Operand) (t : TypeId)
    (ho : o.op = .call { callee := .builtin .append, args := #[s, x], argTypes := #[t, t] })
    (base : Nat) (e : TypeId) (i : TypeInfo) (z : Value) (size bytes : Nat) (ht : P.underlying t = some (.slice e)) (hi : P.info? e = some i) (hz : i.zero = some z)
    (hsize : i.size = size) (hby : i.bytes = bytes) (hzs : z.cells.size = size) (hsz : 0 < size)
    (v : Value) (n : Nat) (xs : List Value) (hs : a.eval s = v) (hown : w.ownsRow base e size v n xs)
    (ad : Addr) (m c : Nat) (news : List Value) (hx : a.eval x = .slice (some ad) m c) (hl : news.length = m * size) (hnews : ∀ j u, news[j]? = some u → w.cell? (ad.add j) = some u) (h1 : ∀ u ∈ news, u.oneCell' = true)
    (h63 : n + m ≤ maxLen) (hbytes : (n + m) * bytes ≤ 140737488355328) (hbase : base ≤ w.heap.size)
    (h : ∀ v' w', w'.ownsRow base e size v' (n + m) (xs ++ news) → w.grownBy w' v.ownBlock → (v' = .slice none 0 0 ↔ v = .slice none 0 0 ∧ m = 0) → K (a.put o.dst v') w') :
    if Region.wanted o (yielded ops a.tmps) = true then Oper.wp P o a w K Q else E := by
  have hw : Region.wanted o (yielded ops a.tmps) = true := by simp [Region.wanted, hgd]
  rw [if_pos hw]
  exact wp_append_own w s x t ho base e i z size bytes ht hi hz hsize hby hzs hsz v n xs hs hown ad m c news hx hl hnews h1 h63 hbytes hbase h

/-- Two cells of a block; one. -/
structure Two (w : World) (b : Nat) (x y : Value) : Prop where
  c0 : w.cell? ⟨b, 0, none⟩ = some x
  c1 : w.cell? ⟨b, 1, none⟩ = some y
structure One (w : World) (b : Nat) (x : Value) : Prop where
  c0 : w.cell? ⟨b, 0, none⟩ = some x
theorem Two.new (w : World) (x y : Value) (t : TypeId) : Two (w.alloc (.cells #[x, y] t)) w.heap.size x y := ⟨(Box2.new w x y t).c0, (Box2.new w x y t).c1⟩
theorem One.new (w : World) (x : Value) (t : TypeId) : One (w.alloc (.cells #[x] t)) w.heap.size x := ⟨(cell_new w x t).1⟩
theorem Two.alloc {w : World} {b : Nat} {x y : Value} (h : Two w b x y) (o : Obj) : Two (w.alloc o) b x y := ⟨(World.cell?_alloc_past _ _ _ (cell_lt h.c0)).trans h.c0, (World.cell?_alloc_past _ _ _ (cell_lt h.c1)).trans h.c1⟩
theorem One.alloc {w : World} {b : Nat} {x : Value} (h : One w b x) (o : Obj) : One (w.alloc o) b x := ⟨(World.cell?_alloc_past _ _ _ (cell_lt h.c0)).trans h.c0⟩
theorem Two.grown {w w' : World} {b : Nat} {x y : Value} {row : Option Nat} (h : Two w b x y) (hg : w.grownBy w' row) (hr : ∀ r, row = some r → r < b) : Two w' b x y :=
  have hn : some b ≠ row := fun e => by have := hr b e.symm; omega
  ⟨hg.cell h.c0 hn, hg.cell h.c1 hn⟩
theorem One.grown {w w' : World} {b : Nat} {x : Value} {row : Option Nat} (h : One w b x) (hg : w.grownBy w' row) (hr : ∀ r, row = some r → r < b) : One w' b x :=
  have hn : some b ≠ row := fun e => by have := hr b e.symm; omega
  ⟨hg.cell h.c0 hn⟩
theorem Two.news {w : World} {b : Nat} {x y : Value} (h : Two w b x y) : ∀ j u, [x, y][j]? = some u → w.cell? ((⟨b, 0, none⟩ : Addr).add j) = some u := by
  intro j u hj
  rw [addr_add, Nat.zero_add]
  match j, hj with
  | 0, hj => simp at hj; subst hj; exact h.c0
  | 1, hj => simp at hj; subst hj; exact h.c1
theorem One.news {w : World} {b : Nat} {x : Value} (h : One w b x) : ∀ j u, [x][j]? = some u → w.cell? ((⟨b, 0, none⟩ : Addr).add j) = some u := by
  intro j u hj
  rw [addr_add, Nat.zero_add]
  match j, hj with
  | 0, hj => simp at hj; subst hj; exact h.c0

theorem infoHd : (Try.prog.info? 33).map (fun i => (i.zero, i.size, i.bytes)) = some (some (.agg #[.int .i64 0, .int .i64 0]), 2, 16) := by kernel_rfl
theorem infoTh : (Try.prog.info? 61).map (fun i => (i.zero, i.size, i.bytes)) = some (some (.agg #[.int .i64 0, .string ⟨#[]⟩]), 2, 24) := by kernel_rfl
theorem infoBo : (Try.prog.info? 4).map (fun i => (i.zero, i.size, i.bytes)) = some (some (.bool false), 1, 1) := by kernel_rfl

/-- The statement's operations. -/
noncomputable def pushOps : Array Oper := match (codeOf [1, 1, 1, 1, 1, 1, 0, 1, 0, 0, 1, 0, 0, 1, 0, 1, 0, 1] (Try.f5.body.getD .skip)) with
  | .region _ ops _ => ops
  | _ => #[]

set_option maxRecDepth 100000 in
set_option maxHeartbeats 8000000 in
theorem finds_push' {w3 : World} {D H sl gn lb lo len1 cap1 k : Nat} {x : Th} {vt vg vb : Value} {es : List Ent}
    (hR : R3 w3 D vt vg vb es) (hD : D ≤ w3.heap.size) (hB : Box2 w3 H (.int .i64 (sl : Int)) (.int .i64 (gn : Int))) (hk : k < len1) (hl60 : es.length < 60)
    (hlb : lb < D) (hc0 : w3.cell? ⟨lb, lo + k * 2, none⟩ = some (.int .i64 x.1)) (hc1 : w3.cell? ⟨lb, lo + k * 2 + 1, none⟩ = some (.string x.2))
    {u0 u2 u3 u4 u5 u6 u7 u8 u14 u15 u16 u17 u18 u19 u20 u21 u22 u23 u24 u25 u26 u27 u28 u29 u30 u31 u32 u33 u34 u35 u36 u37 u38 u39 u40 u41 u42 u43 u44 u45 u46 u47 u48 u49 u50 u51 u52 u53 u54 u55 u56 u57 u58 u59 u60 u61 u62 u63 u64 u65 u66 u67 u68 u69 u70 u71 u72 u73 u74 u75 u76 u77 u78 u79 u80 u81 u82 u83 u84 u85 u86 u87 u88 u89 u90 u91 u92 u93 u94 u95 u96 u97 u98 u99 u100 u101 u102 u103 u104 u105 u106 u107 u108 u109 u110 u111 u112 u113 u114 u115 u116 u117 u118 u119 u120 u121 u122 u123 u124 u125 u126 u127 u128 u129 u130 u131 u132 u133 u134 u135 u136 u137 u138 u139 u140 u141 u142 u143 u144 u145 u146 u147 u148 u149 u150 u151 u152 u153 u154 u155 u156 u157 u158 u159 u160 u161 u162 u163 u164 u165 u166 u167 u168 u169 u170 u171 u172 u173 u174 : Value} {Q : Exit → Act → World → Prop} (hP : ∀ c a w, ¬ Q (.panic c) a w)
    (hQ : ∀ ⦃x9 x10 x11 x65 x66 x67 x68 x69 x70 x71 x72 x73 x74 x75 x76 x77 x78 : Value⦄ ⦃wq : World⦄, R3 wq D x9 x10 x11 (es ++ [⟨sl, gn, x, false⟩]) → Below D w3 wq → Q .normal { tmps := #[u0, .slice (some ⟨lb, lo, none⟩) len1 cap1, u2, u3, u4, u5, u6, u7, u8, x9, x10, x11, .int .i64 (k : Int), .pointer (some ⟨H, 0, none⟩), u14, u15, u16, u17, u18, u19, u20, u21, u22, u23, u24, u25, u26, u27, u28, u29, u30, u31, u32, u33, u34, u35, u36, u37, u38, u39, u40, u41, u42, u43, u44, u45, u46, u47, u48, u49, u50, u51, u52, u53, u54, u55, u56, u57, u58, u59, u60, u61, u62, u63, u64, x65, x66, x67, x68, x69, x70, x71, x72, x73, x74, x75, x76, x77, x78, u79, u80, u81, u82, u83, u84, u85, u86, u87, u88, u89, u90, u91, u92, u93, u94, u95, u96, u97, u98, u99, u100, u101, u102, u103, u104, u105, u106, u107, u108, u109, u110, u111, u112, u113, u114, u115, u116, u117, u118, u119, u120, u121, u122, u123, u124, u125, u126, u127, u128, u129, u130, u131, u132, u133, u134, u135, u136, u137, u138, u139, u140, u141, u142, u143, u144, u145, u146, u147, u148, u149, u150, u151, u152, u153, u154, u155, u156, u157, u158, u159, u160, u161, u162, u163, u164, u165, u166, u167, u168, u169, u170, u171, u172, u173, u174], defers := [] } wq) :
    Code.wp Try.prog (codeOf [1, 1, 1, 1, 1, 1, 0, 1, 0, 0, 1, 0, 0, 1, 0, 1, 0, 1] (Try.f5.body.getD .skip)) Q { tmps := #[u0, .slice (some ⟨lb, lo, none⟩) len1 cap1, u2, u3, u4, u5, u6, u7, u8, vt, vg, vb, .int .i64 (k : Int), .pointer (some ⟨H, 0, none⟩), u14, u15, u16, u17, u18, u19, u20, u21, u22, u23, u24, u25, u26, u27, u28, u29, u30, u31, u32, u33, u34, u35, u36, u37, u38, u39, u40, u41, u42, u43, u44, u45, u46, u47, u48, u49, u50, u51, u52, u53, u54, u55, u56, u57, u58, u59, u60, u61, u62, u63, u64, u65, u66, u67, u68, u69, u70, u71, u72, u73, u74, u75, u76, u77, u78, u79, u80, u81, u82, u83, u84, u85, u86, u87, u88, u89, u90, u91, u92, u93, u94, u95, u96, u97, u98, u99, u100, u101, u102, u103, u104, u105, u106, u107, u108, u109, u110, u111, u112, u113, u114, u115, u116, u117, u118, u119, u120, u121, u122, u123, u124, u125, u126, u127, u128, u129, u130, u131, u132, u133, u134, u135, u136, u137, u138, u139, u140, u141, u142, u143, u144, u145, u146, u147, u148, u149, u150, u151, u152, u153, u154, u155, u156, u157, u158, u159, u160, u161, u162, u163, u164, u165, u166, u167, u168, u169, u170, u171, u172, u173, u174], defers := [] } w3 := by
  have HR := Lib.hid hR
  have HB0 := Lib.hid hB
  have HQ := Lib.hid hQ
  have HC := Lib.hid (And.intro hc0 hc1)
  have hltH := hR.t.lt
  have hltT := hR.g.lt
  have hltB := hR.b.lt
  replace hltH : ∀ j, vt.ownBlock = some j → j < w3.heap.size := fun j e => (hltH j e).2
  replace hltT : ∀ j, vg.ownBlock = some j → j < w3.heap.size := fun j e => (hltT j e).2
  replace hltB : ∀ j, vb.ownBlock = some j → j < w3.heap.size := fun j e => (hltB j e).2
  have hltH := Lib.hid hltH
  have hltT := Lib.hid hltT
  have hltB := Lib.hid hltB
  obtain ⟨iH, hIH, hz0H, hz1H, hz2H⟩ := info_parts infoHd
  obtain ⟨iT, hIT, hz0T, hz1T, hz2T⟩ := info_parts infoTh
  obtain ⟨iB, hIB, hz0B, hz1B, hz2B⟩ := info_parts infoBo
  clear hR hB hQ hc0 hc1
  have L1_2_3_8_9_10_12_13 := Lib.hid (show ∀ (u : World) (bA : Nat) (bB : Nat) (bC : Nat) (v9 : Value) (v10 : Value) (v11 : Value), Below D w3 u → w3.heap.size ≤ u.heap.size → u.ownsRow D 33 2 v9 (es.length + 1) (ehs es ++ [.int .i64 (sl : Int), .int .i64 (gn : Int)]) → u.ownsRow D 61 2 v10 (es.length + 1) (ets es ++ [.int .i64 x.1, .string x.2]) → u.ownsRow D 4 1 v11 (es.length + 1) (egs es ++ [.bool false]) → wpAny Try.prog .any pushOps Q 3 #[true, true, true, true, true, true, true, true, true, true, true, true, true, true, false, false, false] { tmps := #[u0, .slice (some ⟨lb, lo, none⟩) len1 cap1, u2, u3, u4, u5, u6, u7, u8, vt, vg, vb, .int .i64 (k : Int), .pointer (some ⟨H, 0, none⟩), u14, u15, u16, u17, u18, u19, u20, u21, u22, u23, u24, u25, u26, u27, u28, u29, u30, u31, u32, u33, u34, u35, u36, u37, u38, u39, u40, u41, u42, u43, u44, u45, u46, u47, u48, u49, u50, u51, u52, u53, u54, u55, u56, u57, u58, u59, u60, u61, u62, u63, u64, vt, .agg #[.int .i64 (sl : Int), .int .i64 (gn : Int)], .slice (some ⟨bA, 0, none⟩) 1 1, v9, vg, .slice (some ⟨lb, lo, none⟩) len1 cap1, .int .i64 (k : Int), .pointer (some ⟨lb, lo + k * 2, none⟩), .agg #[.int .i64 x.1, .string x.2], .slice (some ⟨bB, 0, none⟩) 1 1, v10, vb, .slice (some ⟨bC, 0, none⟩) 1 1, v11, u79, u80, u81, u82, u83, u84, u85, u86, u87, u88, u89, u90, u91, u92, u93, u94, u95, u96, u97, u98, u99, u100, u101, u102, u103, u104, u105, u106, u107, u108, u109, u110, u111, u112, u113, u114, u115, u116, u117, u118, u119, u120, u121, u122, u123, u124, u125, u126, u127, u128, u129, u130, u131, u132, u133, u134, u135, u136, u137, u138, u139, u140, u141, u142, u143, u144, u145, u146, u147, u148, u149, u150, u151, u152, u153, u154, u155, u156, u157, u158, u159, u160, u161, u162, u163, u164, u165, u166, u167, u168, u169, u170, u171, u172, u173, u174], defers := [] } u from by
    intro u bA bB bC v9 v10 v11 BL SZ RT RG RB
    have BL := Lib.hid BL
    have SZ := Lib.hid SZ
    have RT := Lib.hid RT
    have RG := Lib.hid RG
    have RB := Lib.hid RB
    have hDu : D ≤ u.heap.size := Nat.le_trans hD SZ.out
    refine wpAny_ready (rs := [14]) (by kernel_rfl) (by simp) ?_
    refine AllReady.cons (o := { dst := some 9, op := Op.assign (Operand.tmp 68), type := 50, pos := "law.go:133", after := #[{ on := 3, ground := Ground.data }, { on := 13, ground := Ground.chain }, { on := 0, ground := Ground.phase }, { on := 1, ground := Ground.phase }, { on := 2, ground := Ground.phase }, { on := 3, ground := Ground.phase }, { on := 4, ground := Ground.textOnly Departure.lateStores }, { on := 5, ground := Ground.textOnly Departure.lateStores }, { on := 6, ground := Ground.textOnly Departure.lateStores }, { on := 7, ground := Ground.textOnly Departure.lateStores }, { on := 8, ground := Ground.textOnly Departure.lateStores }, { on := 9, ground := Ground.textOnly Departure.lateStores }, { on := 10, ground := Ground.textOnly Departure.lateStoresUnsure }, { on := 11, ground := Ground.textOnly Departure.lateStores }, { on := 12, ground := Ground.textOnly Departure.lateStores }, { on := 13, ground := Ground.textOnly Departure.lateStoresUnsure }], guard := none }) rfl (fun K hK => ?_) AllReady.nil
    go_simp
    refine hK _ _ ?_
    clear hK K
    refine wpAny_ready (rs := [15]) (by kernel_rfl) (by simp) ?_
    refine AllReady.cons (o := { dst := some 10, op := Op.assign (Operand.tmp 75), type := 55, pos := "law.go:133", after := #[{ on := 10, ground := Ground.data }, { on := 14, ground := Ground.chain }, { on := 0, ground := Ground.phase }, { on := 1, ground := Ground.phase }, { on := 2, ground := Ground.phase }, { on := 3, ground := Ground.phase }, { on := 4, ground := Ground.phase }, { on := 5, ground := Ground.phase }, { on := 6, ground := Ground.phase }, { on := 7, ground := Ground.phase }, { on := 8, ground := Ground.phase }, { on := 9, ground := Ground.phase }, { on := 10, ground := Ground.phase }, { on := 11, ground := Ground.textOnly Departure.lateStores }, { on := 12, ground := Ground.textOnly Departure.lateStores }, { on := 13, ground := Ground.textOnly Departure.lateStoresUnsure }, { on := 14, ground := Ground.phase }], guard := none }) rfl (fun K hK => ?_) AllReady.nil
    go_simp
    refine hK _ _ ?_
    clear hK K
    refine wpAny_ready (rs := [16]) (by kernel_rfl) (by simp) ?_
    refine AllReady.cons (o := { dst := some 11, op := Op.assign (Operand.tmp 78), type := 62, pos := "law.go:133", after := #[{ on := 13, ground := Ground.data }, { on := 15, ground := Ground.chain }, { on := 0, ground := Ground.phase }, { on := 1, ground := Ground.phase }, { on := 2, ground := Ground.phase }, { on := 3, ground := Ground.phase }, { on := 4, ground := Ground.phase }, { on := 5, ground := Ground.phase }, { on := 6, ground := Ground.phase }, { on := 7, ground := Ground.phase }, { on := 8, ground := Ground.phase }, { on := 9, ground := Ground.phase }, { on := 10, ground := Ground.phase }, { on := 11, ground := Ground.phase }, { on := 12, ground := Ground.phase }, { on := 13, ground := Ground.phase }, { on := 14, ground := Ground.phase }, { on := 15, ground := Ground.phase }], guard := none }) rfl (fun K hK => ?_) AllReady.nil
    go_simp
    refine hK _ _ ?_
    clear hK K
    refine wpAny_done (by kernel_rfl) ?_ _
    refine HQ.out ⟨?_, ?_, ?_⟩ BL.out
    · rw [List.length_append, ehs_snoc]; exact RT.out
    · rw [List.length_append, ets_snoc]; exact RG.out
    · rw [List.length_append, egs_snoc]; exact RB.out)
  have L1_2_3_8_9_10_12 := Lib.hid (show ∀ (u : World) (bA : Nat) (bB : Nat) (bC : Nat) (v9 : Value) (v10 : Value), Below D w3 u → w3.heap.size ≤ u.heap.size → u.ownsRow D 33 2 v9 (es.length + 1) (ehs es ++ [.int .i64 (sl : Int), .int .i64 (gn : Int)]) → u.ownsRow D 61 2 v10 (es.length + 1) (ets es ++ [.int .i64 x.1, .string x.2]) → u.ownsRow D 4 1 vb es.length (egs es) → One u bC (.bool false) → w3.heap.size ≤ bC → wpAny Try.prog .any pushOps Q 4 #[true, true, true, true, true, true, true, true, true, true, true, true, true, false, false, false, false] { tmps := #[u0, .slice (some ⟨lb, lo, none⟩) len1 cap1, u2, u3, u4, u5, u6, u7, u8, vt, vg, vb, .int .i64 (k : Int), .pointer (some ⟨H, 0, none⟩), u14, u15, u16, u17, u18, u19, u20, u21, u22, u23, u24, u25, u26, u27, u28, u29, u30, u31, u32, u33, u34, u35, u36, u37, u38, u39, u40, u41, u42, u43, u44, u45, u46, u47, u48, u49, u50, u51, u52, u53, u54, u55, u56, u57, u58, u59, u60, u61, u62, u63, u64, vt, .agg #[.int .i64 (sl : Int), .int .i64 (gn : Int)], .slice (some ⟨bA, 0, none⟩) 1 1, v9, vg, .slice (some ⟨lb, lo, none⟩) len1 cap1, .int .i64 (k : Int), .pointer (some ⟨lb, lo + k * 2, none⟩), .agg #[.int .i64 x.1, .string x.2], .slice (some ⟨bB, 0, none⟩) 1 1, v10, vb, .slice (some ⟨bC, 0, none⟩) 1 1, u78, u79, u80, u81, u82, u83, u84, u85, u86, u87, u88, u89, u90, u91, u92, u93, u94, u95, u96, u97, u98, u99, u100, u101, u102, u103, u104, u105, u106, u107, u108, u109, u110, u111, u112, u113, u114, u115, u116, u117, u118, u119, u120, u121, u122, u123, u124, u125, u126, u127, u128, u129, u130, u131, u132, u133, u134, u135, u136, u137, u138, u139, u140, u141, u142, u143, u144, u145, u146, u147, u148, u149, u150, u151, u152, u153, u154, u155, u156, u157, u158, u159, u160, u161, u162, u163, u164, u165, u166, u167, u168, u169, u170, u171, u172, u173, u174], defers := [] } u from by
    intro u bA bB bC v9 v10 BL SZ RT RG RB SC SCb
    have BL := Lib.hid BL
    have SZ := Lib.hid SZ
    have RT := Lib.hid RT
    have RG := Lib.hid RG
    have RB := Lib.hid RB
    have SC := Lib.hid SC
    have SCb := Lib.hid SCb
    have hDu : D ≤ u.heap.size := Nat.le_trans hD SZ.out
    refine wpAny_ready (rs := [13]) (by kernel_rfl) (by simp) ?_
    refine AllReady.cons (o := { dst := some 78, op := Op.call { callee := Callee.builtin Builtin.append, args := #[Operand.tmp 76, Operand.tmp 77], argTypes := #[62, 62] }, type := 62, pos := "law.go:133", after := #[{ on := 11, ground := Ground.data }, { on := 12, ground := Ground.data }, { on := 10, ground := Ground.chain }], guard := none }) rfl (fun K hK => ?_) AllReady.nil
    · refine step_append_own rfl _ _ 62 rfl D 4 iB (.bool false) 1 1 Try.underlying62 hIB hz0B hz1B hz2B rfl (by decide) vb es.length (egs es) (by simp [Act.eval]) RB.out ⟨bC, 0, none⟩ 1 1 [.bool false] (by simp [Act.eval]) rfl SC.out.news (by simp [Value.oneCell']) (by unfold maxLen; omega) (by omega) hDu ?_
      intro v11 u2 hown hgrow _
      have HO := Lib.hid hown
      have HGr := Lib.hid hgrow
      clear hown hgrow
      try go_simp
      refine hK _ _ ?_
      clear hK K
      have hown := HO.out
      have hgrow := HGr.out
      exact L1_2_3_8_9_10_12_13.out u2 bA bB bC v9 v10 v11 (BL.out.grown hgrow hDu (fun j e => (RB.out.lt j e).1)) (Nat.le_trans SZ.out hgrow.size) (World.ownsRow.kept RT.out hgrow (own_apart RT.out RB.out (by decide))) (World.ownsRow.kept RG.out hgrow (own_apart RG.out RB.out (by decide))) hown)
  have L1_2_3_8_9_10 := Lib.hid (show ∀ (u : World) (bA : Nat) (bB : Nat) (v9 : Value) (v10 : Value), Below D w3 u → w3.heap.size ≤ u.heap.size → u.ownsRow D 33 2 v9 (es.length + 1) (ehs es ++ [.int .i64 (sl : Int), .int .i64 (gn : Int)]) → u.ownsRow D 61 2 v10 (es.length + 1) (ets es ++ [.int .i64 x.1, .string x.2]) → u.ownsRow D 4 1 vb es.length (egs es) → wpAny Try.prog .any pushOps Q 5 #[true, true, true, true, true, true, true, true, true, true, true, true, false, false, false, false, false] { tmps := #[u0, .slice (some ⟨lb, lo, none⟩) len1 cap1, u2, u3, u4, u5, u6, u7, u8, vt, vg, vb, .int .i64 (k : Int), .pointer (some ⟨H, 0, none⟩), u14, u15, u16, u17, u18, u19, u20, u21, u22, u23, u24, u25, u26, u27, u28, u29, u30, u31, u32, u33, u34, u35, u36, u37, u38, u39, u40, u41, u42, u43, u44, u45, u46, u47, u48, u49, u50, u51, u52, u53, u54, u55, u56, u57, u58, u59, u60, u61, u62, u63, u64, vt, .agg #[.int .i64 (sl : Int), .int .i64 (gn : Int)], .slice (some ⟨bA, 0, none⟩) 1 1, v9, vg, .slice (some ⟨lb, lo, none⟩) len1 cap1, .int .i64 (k : Int), .pointer (some ⟨lb, lo + k * 2, none⟩), .agg #[.int .i64 x.1, .string x.2], .slice (some ⟨bB, 0, none⟩) 1 1, v10, vb, u77, u78, u79, u80, u81, u82, u83, u84, u85, u86, u87, u88, u89, u90, u91, u92, u93, u94, u95, u96, u97, u98, u99, u100, u101, u102, u103, u104, u105, u106, u107, u108, u109, u110, u111, u112, u113, u114, u115, u116, u117, u118, u119, u120, u121, u122, u123, u124, u125, u126, u127, u128, u129, u130, u131, u132, u133, u134, u135, u136, u137, u138, u139, u140, u141, u142, u143, u144, u145, u146, u147, u148, u149, u150, u151, u152, u153, u154, u155, u156, u157, u158, u159, u160, u161, u162, u163, u164, u165, u166, u167, u168, u169, u170, u171, u172, u173, u174], defers := [] } u from by
    intro u bA bB v9 v10 BL SZ RT RG RB
    have BL := Lib.hid BL
    have SZ := Lib.hid SZ
    have RT := Lib.hid RT
    have RG := Lib.hid RG
    have RB := Lib.hid RB
    have hDu : D ≤ u.heap.size := Nat.le_trans hD SZ.out
    refine wpAny_ready (rs := [12]) (by kernel_rfl) (by simp) ?_
    refine AllReady.cons (o := { dst := some 77, op := Op.buildSlice 62 1 #[(0, Operand.const (Value.bool false))], type := 62, pos := "law.go:133", after := #[], guard := none }) rfl (fun K hK => ?_) AllReady.nil
    · go_simp
      refine hK _ _ ?_
      clear hK K
      exact L1_2_3_8_9_10_12.out (u.alloc (.cells #[.bool false] 4)) bA bB u.heap.size v9 v10 (BL.out.alloc hDu (.cells #[.bool false] 4)) (by have := SZ.out; simp; omega) (World.ownsRow.alloc RT.out _) (World.ownsRow.alloc RG.out _) (World.ownsRow.alloc RB.out _) (One.new u (.bool false) _) SZ.out)
  have L1_2_3_8_9_12 := Lib.hid (show ∀ (u : World) (bA : Nat) (bB : Nat) (bC : Nat) (v9 : Value), Below D w3 u → w3.heap.size ≤ u.heap.size → u.ownsRow D 33 2 v9 (es.length + 1) (ehs es ++ [.int .i64 (sl : Int), .int .i64 (gn : Int)]) → u.ownsRow D 61 2 vg es.length (ets es) → u.ownsRow D 4 1 vb es.length (egs es) → Two u bB (.int .i64 x.1) (.string x.2) → w3.heap.size ≤ bB → One u bC (.bool false) → w3.heap.size ≤ bC → wpAny Try.prog .any pushOps Q 5 #[true, true, true, true, true, true, true, true, true, true, false, true, true, false, false, false, false] { tmps := #[u0, .slice (some ⟨lb, lo, none⟩) len1 cap1, u2, u3, u4, u5, u6, u7, u8, vt, vg, vb, .int .i64 (k : Int), .pointer (some ⟨H, 0, none⟩), u14, u15, u16, u17, u18, u19, u20, u21, u22, u23, u24, u25, u26, u27, u28, u29, u30, u31, u32, u33, u34, u35, u36, u37, u38, u39, u40, u41, u42, u43, u44, u45, u46, u47, u48, u49, u50, u51, u52, u53, u54, u55, u56, u57, u58, u59, u60, u61, u62, u63, u64, vt, .agg #[.int .i64 (sl : Int), .int .i64 (gn : Int)], .slice (some ⟨bA, 0, none⟩) 1 1, v9, vg, .slice (some ⟨lb, lo, none⟩) len1 cap1, .int .i64 (k : Int), .pointer (some ⟨lb, lo + k * 2, none⟩), .agg #[.int .i64 x.1, .string x.2], .slice (some ⟨bB, 0, none⟩) 1 1, u75, vb, .slice (some ⟨bC, 0, none⟩) 1 1, u78, u79, u80, u81, u82, u83, u84, u85, u86, u87, u88, u89, u90, u91, u92, u93, u94, u95, u96, u97, u98, u99, u100, u101, u102, u103, u104, u105, u106, u107, u108, u109, u110, u111, u112, u113, u114, u115, u116, u117, u118, u119, u120, u121, u122, u123, u124, u125, u126, u127, u128, u129, u130, u131, u132, u133, u134, u135, u136, u137, u138, u139, u140, u141, u142, u143, u144, u145, u146, u147, u148, u149, u150, u151, u152, u153, u154, u155, u156, u157, u158, u159, u160, u161, u162, u163, u164, u165, u166, u167, u168, u169, u170, u171, u172, u173, u174], defers := [] } u from by
    intro u bA bB bC v9 BL SZ RT RG RB SB SBb SC SCb
    have BL := Lib.hid BL
    have SZ := Lib.hid SZ
    have RT := Lib.hid RT
    have RG := Lib.hid RG
    have RB := Lib.hid RB
    have SB := Lib.hid SB
    have SBb := Lib.hid SBb
    have SC := Lib.hid SC
    have SCb := Lib.hid SCb
    have hDu : D ≤ u.heap.size := Nat.le_trans hD SZ.out
    refine wpAny_ready (rs := [10]) (by kernel_rfl) (by simp) ?_
    refine AllReady.cons (o := { dst := some 75, op := Op.call { callee := Callee.builtin Builtin.append, args := #[Operand.tmp 69, Operand.tmp 74], argTypes := #[55, 55] }, type := 55, pos := "law.go:133", after := #[{ on := 4, ground := Ground.data }, { on := 9, ground := Ground.data }, { on := 3, ground := Ground.chain }], guard := none }) rfl (fun K hK => ?_) AllReady.nil
    · refine step_append_own rfl _ _ 55 rfl D 61 iT (.agg #[.int .i64 0, .string ⟨#[]⟩]) 2 24 Try.underlying55 hIT hz0T hz1T hz2T rfl (by decide) vg es.length (ets es) (by simp [Act.eval]) RG.out ⟨bB, 0, none⟩ 1 1 [.int .i64 x.1, .string x.2] (by simp [Act.eval]) rfl SB.out.news (by simp [Value.oneCell']) (by unfold maxLen; omega) (by omega) hDu ?_
      intro v10 u2 hown hgrow _
      have HO := Lib.hid hown
      have HGr := Lib.hid hgrow
      clear hown hgrow
      try go_simp
      refine hK _ _ ?_
      clear hK K
      have hown := HO.out
      have hgrow := HGr.out
      exact L1_2_3_8_9_10_12.out u2 bA bB bC v9 v10 (BL.out.grown hgrow hDu (fun j e => (RG.out.lt j e).1)) (Nat.le_trans SZ.out hgrow.size) (World.ownsRow.kept RT.out hgrow (own_apart RT.out RG.out (by decide))) hown (World.ownsRow.kept RB.out hgrow (own_apart RB.out RG.out (by decide))) (SC.out.grown hgrow (fun j e => by have := hltT.out j e; have := SCb.out; omega)) SCb.out)
  have L1_2_3_8_9 := Lib.hid (show ∀ (u : World) (bA : Nat) (bB : Nat) (v9 : Value), Below D w3 u → w3.heap.size ≤ u.heap.size → u.ownsRow D 33 2 v9 (es.length + 1) (ehs es ++ [.int .i64 (sl : Int), .int .i64 (gn : Int)]) → u.ownsRow D 61 2 vg es.length (ets es) → u.ownsRow D 4 1 vb es.length (egs es) → Two u bB (.int .i64 x.1) (.string x.2) → w3.heap.size ≤ bB → wpAny Try.prog .any pushOps Q 6 #[true, true, true, true, true, true, true, true, true, true, false, true, false, false, false, false, false] { tmps := #[u0, .slice (some ⟨lb, lo, none⟩) len1 cap1, u2, u3, u4, u5, u6, u7, u8, vt, vg, vb, .int .i64 (k : Int), .pointer (some ⟨H, 0, none⟩), u14, u15, u16, u17, u18, u19, u20, u21, u22, u23, u24, u25, u26, u27, u28, u29, u30, u31, u32, u33, u34, u35, u36, u37, u38, u39, u40, u41, u42, u43, u44, u45, u46, u47, u48, u49, u50, u51, u52, u53, u54, u55, u56, u57, u58, u59, u60, u61, u62, u63, u64, vt, .agg #[.int .i64 (sl : Int), .int .i64 (gn : Int)], .slice (some ⟨bA, 0, none⟩) 1 1, v9, vg, .slice (some ⟨lb, lo, none⟩) len1 cap1, .int .i64 (k : Int), .pointer (some ⟨lb, lo + k * 2, none⟩), .agg #[.int .i64 x.1, .string x.2], .slice (some ⟨bB, 0, none⟩) 1 1, u75, vb, u77, u78, u79, u80, u81, u82, u83, u84, u85, u86, u87, u88, u89, u90, u91, u92, u93, u94, u95, u96, u97, u98, u99, u100, u101, u102, u103, u104, u105, u106, u107, u108, u109, u110, u111, u112, u113, u114, u115, u116, u117, u118, u119, u120, u121, u122, u123, u124, u125, u126, u127, u128, u129, u130, u131, u132, u133, u134, u135, u136, u137, u138, u139, u140, u141, u142, u143, u144, u145, u146, u147, u148, u149, u150, u151, u152, u153, u154, u155, u156, u157, u158, u159, u160, u161, u162, u163, u164, u165, u166, u167, u168, u169, u170, u171, u172, u173, u174], defers := [] } u from by
    intro u bA bB v9 BL SZ RT RG RB SB SBb
    have BL := Lib.hid BL
    have SZ := Lib.hid SZ
    have RT := Lib.hid RT
    have RG := Lib.hid RG
    have RB := Lib.hid RB
    have SB := Lib.hid SB
    have SBb := Lib.hid SBb
    have hDu : D ≤ u.heap.size := Nat.le_trans hD SZ.out
    refine wpAny_ready (rs := [10, 12]) (by kernel_rfl) (by simp) ?_
    refine AllReady.cons (o := { dst := some 75, op := Op.call { callee := Callee.builtin Builtin.append, args := #[Operand.tmp 69, Operand.tmp 74], argTypes := #[55, 55] }, type := 55, pos := "law.go:133", after := #[{ on := 4, ground := Ground.data }, { on := 9, ground := Ground.data }, { on := 3, ground := Ground.chain }], guard := none }) rfl (fun K hK => ?_) (AllReady.cons (o := { dst := some 77, op := Op.buildSlice 62 1 #[(0, Operand.const (Value.bool false))], type := 62, pos := "law.go:133", after := #[], guard := none }) rfl (fun K hK => ?_) AllReady.nil)
    · refine step_append_own rfl _ _ 55 rfl D 61 iT (.agg #[.int .i64 0, .string ⟨#[]⟩]) 2 24 Try.underlying55 hIT hz0T hz1T hz2T rfl (by decide) vg es.length (ets es) (by simp [Act.eval]) RG.out ⟨bB, 0, none⟩ 1 1 [.int .i64 x.1, .string x.2] (by simp [Act.eval]) rfl SB.out.news (by simp [Value.oneCell']) (by unfold maxLen; omega) (by omega) hDu ?_
      intro v10 u2 hown hgrow _
      have HO := Lib.hid hown
      have HGr := Lib.hid hgrow
      clear hown hgrow
      try go_simp
      refine hK _ _ ?_
      clear hK K
      have hown := HO.out
      have hgrow := HGr.out
      exact L1_2_3_8_9_10.out u2 bA bB v9 v10 (BL.out.grown hgrow hDu (fun j e => (RG.out.lt j e).1)) (Nat.le_trans SZ.out hgrow.size) (World.ownsRow.kept RT.out hgrow (own_apart RT.out RG.out (by decide))) hown (World.ownsRow.kept RB.out hgrow (own_apart RB.out RG.out (by decide)))
    · go_simp
      refine hK _ _ ?_
      clear hK K
      exact L1_2_3_8_9_12.out (u.alloc (.cells #[.bool false] 4)) bA bB u.heap.size v9 (BL.out.alloc hDu (.cells #[.bool false] 4)) (by have := SZ.out; simp; omega) (World.ownsRow.alloc RT.out _) (World.ownsRow.alloc RG.out _) (World.ownsRow.alloc RB.out _) (SB.out.alloc _) SBb.out (One.new u (.bool false) _) SZ.out)
  have L1_2_3_8_12 := Lib.hid (show ∀ (u : World) (bA : Nat) (bC : Nat) (v9 : Value), Below D w3 u → w3.heap.size ≤ u.heap.size → u.ownsRow D 33 2 v9 (es.length + 1) (ehs es ++ [.int .i64 (sl : Int), .int .i64 (gn : Int)]) → u.ownsRow D 61 2 vg es.length (ets es) → u.ownsRow D 4 1 vb es.length (egs es) → One u bC (.bool false) → w3.heap.size ≤ bC → wpAny Try.prog .any pushOps Q 6 #[true, true, true, true, true, true, true, true, true, false, false, true, true, false, false, false, false] { tmps := #[u0, .slice (some ⟨lb, lo, none⟩) len1 cap1, u2, u3, u4, u5, u6, u7, u8, vt, vg, vb, .int .i64 (k : Int), .pointer (some ⟨H, 0, none⟩), u14, u15, u16, u17, u18, u19, u20, u21, u22, u23, u24, u25, u26, u27, u28, u29, u30, u31, u32, u33, u34, u35, u36, u37, u38, u39, u40, u41, u42, u43, u44, u45, u46, u47, u48, u49, u50, u51, u52, u53, u54, u55, u56, u57, u58, u59, u60, u61, u62, u63, u64, vt, .agg #[.int .i64 (sl : Int), .int .i64 (gn : Int)], .slice (some ⟨bA, 0, none⟩) 1 1, v9, vg, .slice (some ⟨lb, lo, none⟩) len1 cap1, .int .i64 (k : Int), .pointer (some ⟨lb, lo + k * 2, none⟩), .agg #[.int .i64 x.1, .string x.2], u74, u75, vb, .slice (some ⟨bC, 0, none⟩) 1 1, u78, u79, u80, u81, u82, u83, u84, u85, u86, u87, u88, u89, u90, u91, u92, u93, u94, u95, u96, u97, u98, u99, u100, u101, u102, u103, u104, u105, u106, u107, u108, u109, u110, u111, u112, u113, u114, u115, u116, u117, u118, u119, u120, u121, u122, u123, u124, u125, u126, u127, u128, u129, u130, u131, u132, u133, u134, u135, u136, u137, u138, u139, u140, u141, u142, u143, u144, u145, u146, u147, u148, u149, u150, u151, u152, u153, u154, u155, u156, u157, u158, u159, u160, u161, u162, u163, u164, u165, u166, u167, u168, u169, u170, u171, u172, u173, u174], defers := [] } u from by
    intro u bA bC v9 BL SZ RT RG RB SC SCb
    have BL := Lib.hid BL
    have SZ := Lib.hid SZ
    have RT := Lib.hid RT
    have RG := Lib.hid RG
    have RB := Lib.hid RB
    have SC := Lib.hid SC
    have SCb := Lib.hid SCb
    have hDu : D ≤ u.heap.size := Nat.le_trans hD SZ.out
    refine wpAny_ready (rs := [9]) (by kernel_rfl) (by simp) ?_
    refine AllReady.cons (o := { dst := some 74, op := Op.buildSlice 55 1 #[(0, Operand.tmp 73)], type := 55, pos := "law.go:133", after := #[{ on := 8, ground := Ground.data }], guard := none }) rfl (fun K hK => ?_) AllReady.nil
    · go_simp
      refine hK _ _ ?_
      clear hK K
      exact L1_2_3_8_9_12.out (u.alloc (.cells #[.int .i64 x.1, .string x.2] 61)) bA u.heap.size bC v9 (BL.out.alloc hDu (.cells #[.int .i64 x.1, .string x.2] 61)) (by have := SZ.out; simp; omega) (World.ownsRow.alloc RT.out _) (World.ownsRow.alloc RG.out _) (World.ownsRow.alloc RB.out _) (Two.new u (.int .i64 x.1) (.string x.2) _) SZ.out (SC.out.alloc _) SCb.out)
  have L1_2_8_9_12 := Lib.hid (show ∀ (u : World) (bA : Nat) (bB : Nat) (bC : Nat), Below D w3 u → w3.heap.size ≤ u.heap.size → u.ownsRow D 33 2 vt es.length (ehs es) → u.ownsRow D 61 2 vg es.length (ets es) → u.ownsRow D 4 1 vb es.length (egs es) → Two u bA (.int .i64 (sl : Int)) (.int .i64 (gn : Int)) → w3.heap.size ≤ bA → Two u bB (.int .i64 x.1) (.string x.2) → w3.heap.size ≤ bB → One u bC (.bool false) → w3.heap.size ≤ bC → wpAny Try.prog .any pushOps Q 6 #[true, true, true, false, true, true, true, true, true, true, false, true, true, false, false, false, false] { tmps := #[u0, .slice (some ⟨lb, lo, none⟩) len1 cap1, u2, u3, u4, u5, u6, u7, u8, vt, vg, vb, .int .i64 (k : Int), .pointer (some ⟨H, 0, none⟩), u14, u15, u16, u17, u18, u19, u20, u21, u22, u23, u24, u25, u26, u27, u28, u29, u30, u31, u32, u33, u34, u35, u36, u37, u38, u39, u40, u41, u42, u43, u44, u45, u46, u47, u48, u49, u50, u51, u52, u53, u54, u55, u56, u57, u58, u59, u60, u61, u62, u63, u64, vt, .agg #[.int .i64 (sl : Int), .int .i64 (gn : Int)], .slice (some ⟨bA, 0, none⟩) 1 1, u68, vg, .slice (some ⟨lb, lo, none⟩) len1 cap1, .int .i64 (k : Int), .pointer (some ⟨lb, lo + k * 2, none⟩), .agg #[.int .i64 x.1, .string x.2], .slice (some ⟨bB, 0, none⟩) 1 1, u75, vb, .slice (some ⟨bC, 0, none⟩) 1 1, u78, u79, u80, u81, u82, u83, u84, u85, u86, u87, u88, u89, u90, u91, u92, u93, u94, u95, u96, u97, u98, u99, u100, u101, u102, u103, u104, u105, u106, u107, u108, u109, u110, u111, u112, u113, u114, u115, u116, u117, u118, u119, u120, u121, u122, u123, u124, u125, u126, u127, u128, u129, u130, u131, u132, u133, u134, u135, u136, u137, u138, u139, u140, u141, u142, u143, u144, u145, u146, u147, u148, u149, u150, u151, u152, u153, u154, u155, u156, u157, u158, u159, u160, u161, u162, u163, u164, u165, u166, u167, u168, u169, u170, u171, u172, u173, u174], defers := [] } u from by
    intro u bA bB bC BL SZ RT RG RB SA SAb SB SBb SC SCb
    have BL := Lib.hid BL
    have SZ := Lib.hid SZ
    have RT := Lib.hid RT
    have RG := Lib.hid RG
    have RB := Lib.hid RB
    have SA := Lib.hid SA
    have SAb := Lib.hid SAb
    have SB := Lib.hid SB
    have SBb := Lib.hid SBb
    have SC := Lib.hid SC
    have SCb := Lib.hid SCb
    have hDu : D ≤ u.heap.size := Nat.le_trans hD SZ.out
    refine wpAny_ready (rs := [3]) (by kernel_rfl) (by simp) ?_
    refine AllReady.cons (o := { dst := some 68, op := Op.call { callee := Callee.builtin Builtin.append, args := #[Operand.tmp 65, Operand.tmp 67], argTypes := #[50, 50] }, type := 50, pos := "law.go:133", after := #[{ on := 0, ground := Ground.data }, { on := 2, ground := Ground.data }], guard := none }) rfl (fun K hK => ?_) AllReady.nil
    · refine step_append_own rfl _ _ 50 rfl D 33 iH (.agg #[.int .i64 0, .int .i64 0]) 2 16 Try.underlying50 hIH hz0H hz1H hz2H rfl (by decide) vt es.length (ehs es) (by simp [Act.eval]) RT.out ⟨bA, 0, none⟩ 1 1 [.int .i64 (sl : Int), .int .i64 (gn : Int)] (by simp [Act.eval]) rfl SA.out.news (by simp [Value.oneCell']) (by unfold maxLen; omega) (by omega) hDu ?_
      intro v9 u2 hown hgrow _
      have HO := Lib.hid hown
      have HGr := Lib.hid hgrow
      clear hown hgrow
      try go_simp
      refine hK _ _ ?_
      clear hK K
      have hown := HO.out
      have hgrow := HGr.out
      exact L1_2_3_8_9_12.out u2 bA bB bC v9 (BL.out.grown hgrow hDu (fun j e => (RT.out.lt j e).1)) (Nat.le_trans SZ.out hgrow.size) hown (World.ownsRow.kept RG.out hgrow (own_apart RG.out RT.out (by decide))) (World.ownsRow.kept RB.out hgrow (own_apart RB.out RT.out (by decide))) (SB.out.grown hgrow (fun j e => by have := hltH.out j e; have := SBb.out; omega)) SBb.out (SC.out.grown hgrow (fun j e => by have := hltH.out j e; have := SCb.out; omega)) SCb.out)
  have L1_2_3_8 := Lib.hid (show ∀ (u : World) (bA : Nat) (v9 : Value), Below D w3 u → w3.heap.size ≤ u.heap.size → u.ownsRow D 33 2 v9 (es.length + 1) (ehs es ++ [.int .i64 (sl : Int), .int .i64 (gn : Int)]) → u.ownsRow D 61 2 vg es.length (ets es) → u.ownsRow D 4 1 vb es.length (egs es) → wpAny Try.prog .any pushOps Q 7 #[true, true, true, true, true, true, true, true, true, false, false, true, false, false, false, false, false] { tmps := #[u0, .slice (some ⟨lb, lo, none⟩) len1 cap1, u2, u3, u4, u5, u6, u7, u8, vt, vg, vb, .int .i64 (k : Int), .pointer (some ⟨H, 0, none⟩), u14, u15, u16, u17, u18, u19, u20, u21, u22, u23, u24, u25, u26, u27, u28, u29, u30, u31, u32, u33, u34, u35, u36, u37, u38, u39, u40, u41, u42, u43, u44, u45, u46, u47, u48, u49, u50, u51, u52, u53, u54, u55, u56, u57, u58, u59, u60, u61, u62, u63, u64, vt, .agg #[.int .i64 (sl : Int), .int .i64 (gn : Int)], .slice (some ⟨bA, 0, none⟩) 1 1, v9, vg, .slice (some ⟨lb, lo, none⟩) len1 cap1, .int .i64 (k : Int), .pointer (some ⟨lb, lo + k * 2, none⟩), .agg #[.int .i64 x.1, .string x.2], u74, u75, vb, u77, u78, u79, u80, u81, u82, u83, u84, u85, u86, u87, u88, u89, u90, u91, u92, u93, u94, u95, u96, u97, u98, u99, u100, u101, u102, u103, u104, u105, u106, u107, u108, u109, u110, u111, u112, u113, u114, u115, u116, u117, u118, u119, u120, u121, u122, u123, u124, u125, u126, u127, u128, u129, u130, u131, u132, u133, u134, u135, u136, u137, u138, u139, u140, u141, u142, u143, u144, u145, u146, u147, u148, u149, u150, u151, u152, u153, u154, u155, u156, u157, u158, u159, u160, u161, u162, u163, u164, u165, u166, u167, u168, u169, u170, u171, u172, u173, u174], defers := [] } u from by
    intro u bA v9 BL SZ RT RG RB
    have BL := Lib.hid BL
    have SZ := Lib.hid SZ
    have RT := Lib.hid RT
    have RG := Lib.hid RG
    have RB := Lib.hid RB
    have hDu : D ≤ u.heap.size := Nat.le_trans hD SZ.out
    refine wpAny_ready (rs := [9, 12]) (by kernel_rfl) (by simp) ?_
    refine AllReady.cons (o := { dst := some 74, op := Op.buildSlice 55 1 #[(0, Operand.tmp 73)], type := 55, pos := "law.go:133", after := #[{ on := 8, ground := Ground.data }], guard := none }) rfl (fun K hK => ?_) (AllReady.cons (o := { dst := some 77, op := Op.buildSlice 62 1 #[(0, Operand.const (Value.bool false))], type := 62, pos := "law.go:133", after := #[], guard := none }) rfl (fun K hK => ?_) AllReady.nil)
    · go_simp
      refine hK _ _ ?_
      clear hK K
      exact L1_2_3_8_9.out (u.alloc (.cells #[.int .i64 x.1, .string x.2] 61)) bA u.heap.size v9 (BL.out.alloc hDu (.cells #[.int .i64 x.1, .string x.2] 61)) (by have := SZ.out; simp; omega) (World.ownsRow.alloc RT.out _) (World.ownsRow.alloc RG.out _) (World.ownsRow.alloc RB.out _) (Two.new u (.int .i64 x.1) (.string x.2) _) SZ.out
    · go_simp
      refine hK _ _ ?_
      clear hK K
      exact L1_2_3_8_12.out (u.alloc (.cells #[.bool false] 4)) bA u.heap.size v9 (BL.out.alloc hDu (.cells #[.bool false] 4)) (by have := SZ.out; simp; omega) (World.ownsRow.alloc RT.out _) (World.ownsRow.alloc RG.out _) (World.ownsRow.alloc RB.out _) (One.new u (.bool false) _) SZ.out)
  have L1_2_3_12 := Lib.hid (show ∀ (u : World) (bA : Nat) (bC : Nat) (v9 : Value), Below D w3 u → w3.heap.size ≤ u.heap.size → u.ownsRow D 33 2 v9 (es.length + 1) (ehs es ++ [.int .i64 (sl : Int), .int .i64 (gn : Int)]) → u.ownsRow D 61 2 vg es.length (ets es) → u.ownsRow D 4 1 vb es.length (egs es) → One u bC (.bool false) → w3.heap.size ≤ bC → wpAny Try.prog .any pushOps Q 7 #[true, true, true, true, true, true, true, true, false, false, false, true, true, false, false, false, false] { tmps := #[u0, .slice (some ⟨lb, lo, none⟩) len1 cap1, u2, u3, u4, u5, u6, u7, u8, vt, vg, vb, .int .i64 (k : Int), .pointer (some ⟨H, 0, none⟩), u14, u15, u16, u17, u18, u19, u20, u21, u22, u23, u24, u25, u26, u27, u28, u29, u30, u31, u32, u33, u34, u35, u36, u37, u38, u39, u40, u41, u42, u43, u44, u45, u46, u47, u48, u49, u50, u51, u52, u53, u54, u55, u56, u57, u58, u59, u60, u61, u62, u63, u64, vt, .agg #[.int .i64 (sl : Int), .int .i64 (gn : Int)], .slice (some ⟨bA, 0, none⟩) 1 1, v9, vg, .slice (some ⟨lb, lo, none⟩) len1 cap1, .int .i64 (k : Int), .pointer (some ⟨lb, lo + k * 2, none⟩), u73, u74, u75, vb, .slice (some ⟨bC, 0, none⟩) 1 1, u78, u79, u80, u81, u82, u83, u84, u85, u86, u87, u88, u89, u90, u91, u92, u93, u94, u95, u96, u97, u98, u99, u100, u101, u102, u103, u104, u105, u106, u107, u108, u109, u110, u111, u112, u113, u114, u115, u116, u117, u118, u119, u120, u121, u122, u123, u124, u125, u126, u127, u128, u129, u130, u131, u132, u133, u134, u135, u136, u137, u138, u139, u140, u141, u142, u143, u144, u145, u146, u147, u148, u149, u150, u151, u152, u153, u154, u155, u156, u157, u158, u159, u160, u161, u162, u163, u164, u165, u166, u167, u168, u169, u170, u171, u172, u173, u174], defers := [] } u from by
    intro u bA bC v9 BL SZ RT RG RB SC SCb
    have BL := Lib.hid BL
    have SZ := Lib.hid SZ
    have RT := Lib.hid RT
    have RG := Lib.hid RG
    have RB := Lib.hid RB
    have SC := Lib.hid SC
    have SCb := Lib.hid SCb
    have hDu : D ≤ u.heap.size := Nat.le_trans hD SZ.out
    have l0 := (BL.out.cell (p := ⟨lb, lo + k * 2, none⟩) hlb).trans HC.out.1
    have l1 := (BL.out.cell (p := ⟨lb, lo + k * 2 + 1, none⟩) hlb).trans HC.out.2
    refine wpAny_ready (rs := [8]) (by kernel_rfl) (by simp) ?_
    refine AllReady.cons (o := { dst := some 73, op := Op.load 61 (Operand.tmp 72), type := 61, pos := "law.go:133", after := #[{ on := 7, ground := Ground.data }], guard := none }) rfl (fun K hK => ?_) AllReady.nil
    · go_simp
      refine hK _ _ ?_
      clear hK K
      exact L1_2_3_8_12.out _ bA bC v9 BL.out SZ.out RT.out RG.out RB.out SC.out SCb.out)
  have L1_2_8_9 := Lib.hid (show ∀ (u : World) (bA : Nat) (bB : Nat), Below D w3 u → w3.heap.size ≤ u.heap.size → u.ownsRow D 33 2 vt es.length (ehs es) → u.ownsRow D 61 2 vg es.length (ets es) → u.ownsRow D 4 1 vb es.length (egs es) → Two u bA (.int .i64 (sl : Int)) (.int .i64 (gn : Int)) → w3.heap.size ≤ bA → Two u bB (.int .i64 x.1) (.string x.2) → w3.heap.size ≤ bB → wpAny Try.prog .any pushOps Q 7 #[true, true, true, false, true, true, true, true, true, true, false, true, false, false, false, false, false] { tmps := #[u0, .slice (some ⟨lb, lo, none⟩) len1 cap1, u2, u3, u4, u5, u6, u7, u8, vt, vg, vb, .int .i64 (k : Int), .pointer (some ⟨H, 0, none⟩), u14, u15, u16, u17, u18, u19, u20, u21, u22, u23, u24, u25, u26, u27, u28, u29, u30, u31, u32, u33, u34, u35, u36, u37, u38, u39, u40, u41, u42, u43, u44, u45, u46, u47, u48, u49, u50, u51, u52, u53, u54, u55, u56, u57, u58, u59, u60, u61, u62, u63, u64, vt, .agg #[.int .i64 (sl : Int), .int .i64 (gn : Int)], .slice (some ⟨bA, 0, none⟩) 1 1, u68, vg, .slice (some ⟨lb, lo, none⟩) len1 cap1, .int .i64 (k : Int), .pointer (some ⟨lb, lo + k * 2, none⟩), .agg #[.int .i64 x.1, .string x.2], .slice (some ⟨bB, 0, none⟩) 1 1, u75, vb, u77, u78, u79, u80, u81, u82, u83, u84, u85, u86, u87, u88, u89, u90, u91, u92, u93, u94, u95, u96, u97, u98, u99, u100, u101, u102, u103, u104, u105, u106, u107, u108, u109, u110, u111, u112, u113, u114, u115, u116, u117, u118, u119, u120, u121, u122, u123, u124, u125, u126, u127, u128, u129, u130, u131, u132, u133, u134, u135, u136, u137, u138, u139, u140, u141, u142, u143, u144, u145, u146, u147, u148, u149, u150, u151, u152, u153, u154, u155, u156, u157, u158, u159, u160, u161, u162, u163, u164, u165, u166, u167, u168, u169, u170, u171, u172, u173, u174], defers := [] } u from by
    intro u bA bB BL SZ RT RG RB SA SAb SB SBb
    have BL := Lib.hid BL
    have SZ := Lib.hid SZ
    have RT := Lib.hid RT
    have RG := Lib.hid RG
    have RB := Lib.hid RB
    have SA := Lib.hid SA
    have SAb := Lib.hid SAb
    have SB := Lib.hid SB
    have SBb := Lib.hid SBb
    have hDu : D ≤ u.heap.size := Nat.le_trans hD SZ.out
    refine wpAny_ready (rs := [3, 12]) (by kernel_rfl) (by simp) ?_
    refine AllReady.cons (o := { dst := some 68, op := Op.call { callee := Callee.builtin Builtin.append, args := #[Operand.tmp 65, Operand.tmp 67], argTypes := #[50, 50] }, type := 50, pos := "law.go:133", after := #[{ on := 0, ground := Ground.data }, { on := 2, ground := Ground.data }], guard := none }) rfl (fun K hK => ?_) (AllReady.cons (o := { dst := some 77, op := Op.buildSlice 62 1 #[(0, Operand.const (Value.bool false))], type := 62, pos := "law.go:133", after := #[], guard := none }) rfl (fun K hK => ?_) AllReady.nil)
    · refine step_append_own rfl _ _ 50 rfl D 33 iH (.agg #[.int .i64 0, .int .i64 0]) 2 16 Try.underlying50 hIH hz0H hz1H hz2H rfl (by decide) vt es.length (ehs es) (by simp [Act.eval]) RT.out ⟨bA, 0, none⟩ 1 1 [.int .i64 (sl : Int), .int .i64 (gn : Int)] (by simp [Act.eval]) rfl SA.out.news (by simp [Value.oneCell']) (by unfold maxLen; omega) (by omega) hDu ?_
      intro v9 u2 hown hgrow _
      have HO := Lib.hid hown
      have HGr := Lib.hid hgrow
      clear hown hgrow
      try go_simp
      refine hK _ _ ?_
      clear hK K
      have hown := HO.out
      have hgrow := HGr.out
      exact L1_2_3_8_9.out u2 bA bB v9 (BL.out.grown hgrow hDu (fun j e => (RT.out.lt j e).1)) (Nat.le_trans SZ.out hgrow.size) hown (World.ownsRow.kept RG.out hgrow (own_apart RG.out RT.out (by decide))) (World.ownsRow.kept RB.out hgrow (own_apart RB.out RT.out (by decide))) (SB.out.grown hgrow (fun j e => by have := hltH.out j e; have := SBb.out; omega)) SBb.out
    · go_simp
      refine hK _ _ ?_
      clear hK K
      exact L1_2_8_9_12.out (u.alloc (.cells #[.bool false] 4)) bA bB u.heap.size (BL.out.alloc hDu (.cells #[.bool false] 4)) (by have := SZ.out; simp; omega) (World.ownsRow.alloc RT.out _) (World.ownsRow.alloc RG.out _) (World.ownsRow.alloc RB.out _) (SA.out.alloc _) SAb.out (SB.out.alloc _) SBb.out (One.new u (.bool false) _) SZ.out)
  have L1_2_8_12 := Lib.hid (show ∀ (u : World) (bA : Nat) (bC : Nat), Below D w3 u → w3.heap.size ≤ u.heap.size → u.ownsRow D 33 2 vt es.length (ehs es) → u.ownsRow D 61 2 vg es.length (ets es) → u.ownsRow D 4 1 vb es.length (egs es) → Two u bA (.int .i64 (sl : Int)) (.int .i64 (gn : Int)) → w3.heap.size ≤ bA → One u bC (.bool false) → w3.heap.size ≤ bC → wpAny Try.prog .any pushOps Q 7 #[true, true, true, false, true, true, true, true, true, false, false, true, true, false, false, false, false] { tmps := #[u0, .slice (some ⟨lb, lo, none⟩) len1 cap1, u2, u3, u4, u5, u6, u7, u8, vt, vg, vb, .int .i64 (k : Int), .pointer (some ⟨H, 0, none⟩), u14, u15, u16, u17, u18, u19, u20, u21, u22, u23, u24, u25, u26, u27, u28, u29, u30, u31, u32, u33, u34, u35, u36, u37, u38, u39, u40, u41, u42, u43, u44, u45, u46, u47, u48, u49, u50, u51, u52, u53, u54, u55, u56, u57, u58, u59, u60, u61, u62, u63, u64, vt, .agg #[.int .i64 (sl : Int), .int .i64 (gn : Int)], .slice (some ⟨bA, 0, none⟩) 1 1, u68, vg, .slice (some ⟨lb, lo, none⟩) len1 cap1, .int .i64 (k : Int), .pointer (some ⟨lb, lo + k * 2, none⟩), .agg #[.int .i64 x.1, .string x.2], u74, u75, vb, .slice (some ⟨bC, 0, none⟩) 1 1, u78, u79, u80, u81, u82, u83, u84, u85, u86, u87, u88, u89, u90, u91, u92, u93, u94, u95, u96, u97, u98, u99, u100, u101, u102, u103, u104, u105, u106, u107, u108, u109, u110, u111, u112, u113, u114, u115, u116, u117, u118, u119, u120, u121, u122, u123, u124, u125, u126, u127, u128, u129, u130, u131, u132, u133, u134, u135, u136, u137, u138, u139, u140, u141, u142, u143, u144, u145, u146, u147, u148, u149, u150, u151, u152, u153, u154, u155, u156, u157, u158, u159, u160, u161, u162, u163, u164, u165, u166, u167, u168, u169, u170, u171, u172, u173, u174], defers := [] } u from by
    intro u bA bC BL SZ RT RG RB SA SAb SC SCb
    have BL := Lib.hid BL
    have SZ := Lib.hid SZ
    have RT := Lib.hid RT
    have RG := Lib.hid RG
    have RB := Lib.hid RB
    have SA := Lib.hid SA
    have SAb := Lib.hid SAb
    have SC := Lib.hid SC
    have SCb := Lib.hid SCb
    have hDu : D ≤ u.heap.size := Nat.le_trans hD SZ.out
    refine wpAny_ready (rs := [3, 9]) (by kernel_rfl) (by simp) ?_
    refine AllReady.cons (o := { dst := some 68, op := Op.call { callee := Callee.builtin Builtin.append, args := #[Operand.tmp 65, Operand.tmp 67], argTypes := #[50, 50] }, type := 50, pos := "law.go:133", after := #[{ on := 0, ground := Ground.data }, { on := 2, ground := Ground.data }], guard := none }) rfl (fun K hK => ?_) (AllReady.cons (o := { dst := some 74, op := Op.buildSlice 55 1 #[(0, Operand.tmp 73)], type := 55, pos := "law.go:133", after := #[{ on := 8, ground := Ground.data }], guard := none }) rfl (fun K hK => ?_) AllReady.nil)
    · refine step_append_own rfl _ _ 50 rfl D 33 iH (.agg #[.int .i64 0, .int .i64 0]) 2 16 Try.underlying50 hIH hz0H hz1H hz2H rfl (by decide) vt es.length (ehs es) (by simp [Act.eval]) RT.out ⟨bA, 0, none⟩ 1 1 [.int .i64 (sl : Int), .int .i64 (gn : Int)] (by simp [Act.eval]) rfl SA.out.news (by simp [Value.oneCell']) (by unfold maxLen; omega) (by omega) hDu ?_
      intro v9 u2 hown hgrow _
      have HO := Lib.hid hown
      have HGr := Lib.hid hgrow
      clear hown hgrow
      try go_simp
      refine hK _ _ ?_
      clear hK K
      have hown := HO.out
      have hgrow := HGr.out
      exact L1_2_3_8_12.out u2 bA bC v9 (BL.out.grown hgrow hDu (fun j e => (RT.out.lt j e).1)) (Nat.le_trans SZ.out hgrow.size) hown (World.ownsRow.kept RG.out hgrow (own_apart RG.out RT.out (by decide))) (World.ownsRow.kept RB.out hgrow (own_apart RB.out RT.out (by decide))) (SC.out.grown hgrow (fun j e => by have := hltH.out j e; have := SCb.out; omega)) SCb.out
    · go_simp
      refine hK _ _ ?_
      clear hK K
      exact L1_2_8_9_12.out (u.alloc (.cells #[.int .i64 x.1, .string x.2] 61)) bA u.heap.size bC (BL.out.alloc hDu (.cells #[.int .i64 x.1, .string x.2] 61)) (by have := SZ.out; simp; omega) (World.ownsRow.alloc RT.out _) (World.ownsRow.alloc RG.out _) (World.ownsRow.alloc RB.out _) (SA.out.alloc _) SAb.out (Two.new u (.int .i64 x.1) (.string x.2) _) SZ.out (SC.out.alloc _) SCb.out)
  have L1_8_9_12 := Lib.hid (show ∀ (u : World) (bB : Nat) (bC : Nat), Below D w3 u → w3.heap.size ≤ u.heap.size → u.ownsRow D 33 2 vt es.length (ehs es) → u.ownsRow D 61 2 vg es.length (ets es) → u.ownsRow D 4 1 vb es.length (egs es) → Two u bB (.int .i64 x.1) (.string x.2) → w3.heap.size ≤ bB → One u bC (.bool false) → w3.heap.size ≤ bC → wpAny Try.prog .any pushOps Q 7 #[true, true, false, false, true, true, true, true, true, true, false, true, true, false, false, false, false] { tmps := #[u0, .slice (some ⟨lb, lo, none⟩) len1 cap1, u2, u3, u4, u5, u6, u7, u8, vt, vg, vb, .int .i64 (k : Int), .pointer (some ⟨H, 0, none⟩), u14, u15, u16, u17, u18, u19, u20, u21, u22, u23, u24, u25, u26, u27, u28, u29, u30, u31, u32, u33, u34, u35, u36, u37, u38, u39, u40, u41, u42, u43, u44, u45, u46, u47, u48, u49, u50, u51, u52, u53, u54, u55, u56, u57, u58, u59, u60, u61, u62, u63, u64, vt, .agg #[.int .i64 (sl : Int), .int .i64 (gn : Int)], u67, u68, vg, .slice (some ⟨lb, lo, none⟩) len1 cap1, .int .i64 (k : Int), .pointer (some ⟨lb, lo + k * 2, none⟩), .agg #[.int .i64 x.1, .string x.2], .slice (some ⟨bB, 0, none⟩) 1 1, u75, vb, .slice (some ⟨bC, 0, none⟩) 1 1, u78, u79, u80, u81, u82, u83, u84, u85, u86, u87, u88, u89, u90, u91, u92, u93, u94, u95, u96, u97, u98, u99, u100, u101, u102, u103, u104, u105, u106, u107, u108, u109, u110, u111, u112, u113, u114, u115, u116, u117, u118, u119, u120, u121, u122, u123, u124, u125, u126, u127, u128, u129, u130, u131, u132, u133, u134, u135, u136, u137, u138, u139, u140, u141, u142, u143, u144, u145, u146, u147, u148, u149, u150, u151, u152, u153, u154, u155, u156, u157, u158, u159, u160, u161, u162, u163, u164, u165, u166, u167, u168, u169, u170, u171, u172, u173, u174], defers := [] } u from by
    intro u bB bC BL SZ RT RG RB SB SBb SC SCb
    have BL := Lib.hid BL
    have SZ := Lib.hid SZ
    have RT := Lib.hid RT
    have RG := Lib.hid RG
    have RB := Lib.hid RB
    have SB := Lib.hid SB
    have SBb := Lib.hid SBb
    have SC := Lib.hid SC
    have SCb := Lib.hid SCb
    have hDu : D ≤ u.heap.size := Nat.le_trans hD SZ.out
    refine wpAny_ready (rs := [2]) (by kernel_rfl) (by simp) ?_
    refine AllReady.cons (o := { dst := some 67, op := Op.buildSlice 50 1 #[(0, Operand.tmp 66)], type := 50, pos := "law.go:133", after := #[{ on := 1, ground := Ground.data }], guard := none }) rfl (fun K hK => ?_) AllReady.nil
    · go_simp
      refine hK _ _ ?_
      clear hK K
      exact L1_2_8_9_12.out (u.alloc (.cells #[.int .i64 (sl : Int), .int .i64 (gn : Int)] 33)) u.heap.size bB bC (BL.out.alloc hDu (.cells #[.int .i64 (sl : Int), .int .i64 (gn : Int)] 33)) (by have := SZ.out; simp; omega) (World.ownsRow.alloc RT.out _) (World.ownsRow.alloc RG.out _) (World.ownsRow.alloc RB.out _) (Two.new u (.int .i64 (sl : Int)) (.int .i64 (gn : Int)) _) SZ.out (SB.out.alloc _) SBb.out (SC.out.alloc _) SCb.out)
  have L1_2_3 := Lib.hid (show ∀ (u : World) (bA : Nat) (v9 : Value), Below D w3 u → w3.heap.size ≤ u.heap.size → u.ownsRow D 33 2 v9 (es.length + 1) (ehs es ++ [.int .i64 (sl : Int), .int .i64 (gn : Int)]) → u.ownsRow D 61 2 vg es.length (ets es) → u.ownsRow D 4 1 vb es.length (egs es) → wpAny Try.prog .any pushOps Q 8 #[true, true, true, true, true, true, true, true, false, false, false, true, false, false, false, false, false] { tmps := #[u0, .slice (some ⟨lb, lo, none⟩) len1 cap1, u2, u3, u4, u5, u6, u7, u8, vt, vg, vb, .int .i64 (k : Int), .pointer (some ⟨H, 0, none⟩), u14, u15, u16, u17, u18, u19, u20, u21, u22, u23, u24, u25, u26, u27, u28, u29, u30, u31, u32, u33, u34, u35, u36, u37, u38, u39, u40, u41, u42, u43, u44, u45, u46, u47, u48, u49, u50, u51, u52, u53, u54, u55, u56, u57, u58, u59, u60, u61, u62, u63, u64, vt, .agg #[.int .i64 (sl : Int), .int .i64 (gn : Int)], .slice (some ⟨bA, 0, none⟩) 1 1, v9, vg, .slice (some ⟨lb, lo, none⟩) len1 cap1, .int .i64 (k : Int), .pointer (some ⟨lb, lo + k * 2, none⟩), u73, u74, u75, vb, u77, u78, u79, u80, u81, u82, u83, u84, u85, u86, u87, u88, u89, u90, u91, u92, u93, u94, u95, u96, u97, u98, u99, u100, u101, u102, u103, u104, u105, u106, u107, u108, u109, u110, u111, u112, u113, u114, u115, u116, u117, u118, u119, u120, u121, u122, u123, u124, u125, u126, u127, u128, u129, u130, u131, u132, u133, u134, u135, u136, u137, u138, u139, u140, u141, u142, u143, u144, u145, u146, u147, u148, u149, u150, u151, u152, u153, u154, u155, u156, u157, u158, u159, u160, u161, u162, u163, u164, u165, u166, u167, u168, u169, u170, u171, u172, u173, u174], defers := [] } u from by
    intro u bA v9 BL SZ RT RG RB
    have BL := Lib.hid BL
    have SZ := Lib.hid SZ
    have RT := Lib.hid RT
    have RG := Lib.hid RG
    have RB := Lib.hid RB
    have hDu : D ≤ u.heap.size := Nat.le_trans hD SZ.out
    have l0 := (BL.out.cell (p := ⟨lb, lo + k * 2, none⟩) hlb).trans HC.out.1
    have l1 := (BL.out.cell (p := ⟨lb, lo + k * 2 + 1, none⟩) hlb).trans HC.out.2
    refine wpAny_ready (rs := [8, 12]) (by kernel_rfl) (by simp) ?_
    refine AllReady.cons (o := { dst := some 73, op := Op.load 61 (Operand.tmp 72), type := 61, pos := "law.go:133", after := #[{ on := 7, ground := Ground.data }], guard := none }) rfl (fun K hK => ?_) (AllReady.cons (o := { dst := some 77, op := Op.buildSlice 62 1 #[(0, Operand.const (Value.bool false))], type := 62, pos := "law.go:133", after := #[], guard := none }) rfl (fun K hK => ?_) AllReady.nil)
    · go_simp
      refine hK _ _ ?_
      clear hK K
      exact L1_2_3_8.out _ bA v9 BL.out SZ.out RT.out RG.out RB.out
    · go_simp
      refine hK _ _ ?_
      clear hK K
      exact L1_2_3_12.out (u.alloc (.cells #[.bool false] 4)) bA u.heap.size v9 (BL.out.alloc hDu (.cells #[.bool false] 4)) (by have := SZ.out; simp; omega) (World.ownsRow.alloc RT.out _) (World.ownsRow.alloc RG.out _) (World.ownsRow.alloc RB.out _) (One.new u (.bool false) _) SZ.out)
  have L1_2_8 := Lib.hid (show ∀ (u : World) (bA : Nat), Below D w3 u → w3.heap.size ≤ u.heap.size → u.ownsRow D 33 2 vt es.length (ehs es) → u.ownsRow D 61 2 vg es.length (ets es) → u.ownsRow D 4 1 vb es.length (egs es) → Two u bA (.int .i64 (sl : Int)) (.int .i64 (gn : Int)) → w3.heap.size ≤ bA → wpAny Try.prog .any pushOps Q 8 #[true, true, true, false, true, true, true, true, true, false, false, true, false, false, false, false, false] { tmps := #[u0, .slice (some ⟨lb, lo, none⟩) len1 cap1, u2, u3, u4, u5, u6, u7, u8, vt, vg, vb, .int .i64 (k : Int), .pointer (some ⟨H, 0, none⟩), u14, u15, u16, u17, u18, u19, u20, u21, u22, u23, u24, u25, u26, u27, u28, u29, u30, u31, u32, u33, u34, u35, u36, u37, u38, u39, u40, u41, u42, u43, u44, u45, u46, u47, u48, u49, u50, u51, u52, u53, u54, u55, u56, u57, u58, u59, u60, u61, u62, u63, u64, vt, .agg #[.int .i64 (sl : Int), .int .i64 (gn : Int)], .slice (some ⟨bA, 0, none⟩) 1 1, u68, vg, .slice (some ⟨lb, lo, none⟩) len1 cap1, .int .i64 (k : Int), .pointer (some ⟨lb, lo + k * 2, none⟩), .agg #[.int .i64 x.1, .string x.2], u74, u75, vb, u77, u78, u79, u80, u81, u82, u83, u84, u85, u86, u87, u88, u89, u90, u91, u92, u93, u94, u95, u96, u97, u98, u99, u100, u101, u102, u103, u104, u105, u106, u107, u108, u109, u110, u111, u112, u113, u114, u115, u116, u117, u118, u119, u120, u121, u122, u123, u124, u125, u126, u127, u128, u129, u130, u131, u132, u133, u134, u135, u136, u137, u138, u139, u140, u141, u142, u143, u144, u145, u146, u147, u148, u149, u150, u151, u152, u153, u154, u155, u156, u157, u158, u159, u160, u161, u162, u163, u164, u165, u166, u167, u168, u169, u170, u171, u172, u173, u174], defers := [] } u from by
    intro u bA BL SZ RT RG RB SA SAb
    have BL := Lib.hid BL
    have SZ := Lib.hid SZ
    have RT := Lib.hid RT
    have RG := Lib.hid RG
    have RB := Lib.hid RB
    have SA := Lib.hid SA
    have SAb := Lib.hid SAb
    have hDu : D ≤ u.heap.size := Nat.le_trans hD SZ.out
    refine wpAny_ready (rs := [3, 9, 12]) (by kernel_rfl) (by simp) ?_
    refine AllReady.cons (o := { dst := some 68, op := Op.call { callee := Callee.builtin Builtin.append, args := #[Operand.tmp 65, Operand.tmp 67], argTypes := #[50, 50] }, type := 50, pos := "law.go:133", after := #[{ on := 0, ground := Ground.data }, { on := 2, ground := Ground.data }], guard := none }) rfl (fun K hK => ?_) (AllReady.cons (o := { dst := some 74, op := Op.buildSlice 55 1 #[(0, Operand.tmp 73)], type := 55, pos := "law.go:133", after := #[{ on := 8, ground := Ground.data }], guard := none }) rfl (fun K hK => ?_) (AllReady.cons (o := { dst := some 77, op := Op.buildSlice 62 1 #[(0, Operand.const (Value.bool false))], type := 62, pos := "law.go:133", after := #[], guard := none }) rfl (fun K hK => ?_) AllReady.nil))
    · refine step_append_own rfl _ _ 50 rfl D 33 iH (.agg #[.int .i64 0, .int .i64 0]) 2 16 Try.underlying50 hIH hz0H hz1H hz2H rfl (by decide) vt es.length (ehs es) (by simp [Act.eval]) RT.out ⟨bA, 0, none⟩ 1 1 [.int .i64 (sl : Int), .int .i64 (gn : Int)] (by simp [Act.eval]) rfl SA.out.news (by simp [Value.oneCell']) (by unfold maxLen; omega) (by omega) hDu ?_
      intro v9 u2 hown hgrow _
      have HO := Lib.hid hown
      have HGr := Lib.hid hgrow
      clear hown hgrow
      try go_simp
      refine hK _ _ ?_
      clear hK K
      have hown := HO.out
      have hgrow := HGr.out
      exact L1_2_3_8.out u2 bA v9 (BL.out.grown hgrow hDu (fun j e => (RT.out.lt j e).1)) (Nat.le_trans SZ.out hgrow.size) hown (World.ownsRow.kept RG.out hgrow (own_apart RG.out RT.out (by decide))) (World.ownsRow.kept RB.out hgrow (own_apart RB.out RT.out (by decide)))
    · go_simp
      refine hK _ _ ?_
      clear hK K
      exact L1_2_8_9.out (u.alloc (.cells #[.int .i64 x.1, .string x.2] 61)) bA u.heap.size (BL.out.alloc hDu (.cells #[.int .i64 x.1, .string x.2] 61)) (by have := SZ.out; simp; omega) (World.ownsRow.alloc RT.out _) (World.ownsRow.alloc RG.out _) (World.ownsRow.alloc RB.out _) (SA.out.alloc _) SAb.out (Two.new u (.int .i64 x.1) (.string x.2) _) SZ.out
    · go_simp
      refine hK _ _ ?_
      clear hK K
      exact L1_2_8_12.out (u.alloc (.cells #[.bool false] 4)) bA u.heap.size (BL.out.alloc hDu (.cells #[.bool false] 4)) (by have := SZ.out; simp; omega) (World.ownsRow.alloc RT.out _) (World.ownsRow.alloc RG.out _) (World.ownsRow.alloc RB.out _) (SA.out.alloc _) SAb.out (One.new u (.bool false) _) SZ.out)
  have L1_2_12 := Lib.hid (show ∀ (u : World) (bA : Nat) (bC : Nat), Below D w3 u → w3.heap.size ≤ u.heap.size → u.ownsRow D 33 2 vt es.length (ehs es) → u.ownsRow D 61 2 vg es.length (ets es) → u.ownsRow D 4 1 vb es.length (egs es) → Two u bA (.int .i64 (sl : Int)) (.int .i64 (gn : Int)) → w3.heap.size ≤ bA → One u bC (.bool false) → w3.heap.size ≤ bC → wpAny Try.prog .any pushOps Q 8 #[true, true, true, false, true, true, true, true, false, false, false, true, true, false, false, false, false] { tmps := #[u0, .slice (some ⟨lb, lo, none⟩) len1 cap1, u2, u3, u4, u5, u6, u7, u8, vt, vg, vb, .int .i64 (k : Int), .pointer (some ⟨H, 0, none⟩), u14, u15, u16, u17, u18, u19, u20, u21, u22, u23, u24, u25, u26, u27, u28, u29, u30, u31, u32, u33, u34, u35, u36, u37, u38, u39, u40, u41, u42, u43, u44, u45, u46, u47, u48, u49, u50, u51, u52, u53, u54, u55, u56, u57, u58, u59, u60, u61, u62, u63, u64, vt, .agg #[.int .i64 (sl : Int), .int .i64 (gn : Int)], .slice (some ⟨bA, 0, none⟩) 1 1, u68, vg, .slice (some ⟨lb, lo, none⟩) len1 cap1, .int .i64 (k : Int), .pointer (some ⟨lb, lo + k * 2, none⟩), u73, u74, u75, vb, .slice (some ⟨bC, 0, none⟩) 1 1, u78, u79, u80, u81, u82, u83, u84, u85, u86, u87, u88, u89, u90, u91, u92, u93, u94, u95, u96, u97, u98, u99, u100, u101, u102, u103, u104, u105, u106, u107, u108, u109, u110, u111, u112, u113, u114, u115, u116, u117, u118, u119, u120, u121, u122, u123, u124, u125, u126, u127, u128, u129, u130, u131, u132, u133, u134, u135, u136, u137, u138, u139, u140, u141, u142, u143, u144, u145, u146, u147, u148, u149, u150, u151, u152, u153, u154, u155, u156, u157, u158, u159, u160, u161, u162, u163, u164, u165, u166, u167, u168, u169, u170, u171, u172, u173, u174], defers := [] } u from by
    intro u bA bC BL SZ RT RG RB SA SAb SC SCb
    have BL := Lib.hid BL
    have SZ := Lib.hid SZ
    have RT := Lib.hid RT
    have RG := Lib.hid RG
    have RB := Lib.hid RB
    have SA := Lib.hid SA
    have SAb := Lib.hid SAb
    have SC := Lib.hid SC
    have SCb := Lib.hid SCb
    have hDu : D ≤ u.heap.size := Nat.le_trans hD SZ.out
    have l0 := (BL.out.cell (p := ⟨lb, lo + k * 2, none⟩) hlb).trans HC.out.1
    have l1 := (BL.out.cell (p := ⟨lb, lo + k * 2 + 1, none⟩) hlb).trans HC.out.2
    refine wpAny_ready (rs := [3, 8]) (by kernel_rfl) (by simp) ?_
    refine AllReady.cons (o := { dst := some 68, op := Op.call { callee := Callee.builtin Builtin.append, args := #[Operand.tmp 65, Operand.tmp 67], argTypes := #[50, 50] }, type := 50, pos := "law.go:133", after := #[{ on := 0, ground := Ground.data }, { on := 2, ground := Ground.data }], guard := none }) rfl (fun K hK => ?_) (AllReady.cons (o := { dst := some 73, op := Op.load 61 (Operand.tmp 72), type := 61, pos := "law.go:133", after := #[{ on := 7, ground := Ground.data }], guard := none }) rfl (fun K hK => ?_) AllReady.nil)
    · refine step_append_own rfl _ _ 50 rfl D 33 iH (.agg #[.int .i64 0, .int .i64 0]) 2 16 Try.underlying50 hIH hz0H hz1H hz2H rfl (by decide) vt es.length (ehs es) (by simp [Act.eval]) RT.out ⟨bA, 0, none⟩ 1 1 [.int .i64 (sl : Int), .int .i64 (gn : Int)] (by simp [Act.eval]) rfl SA.out.news (by simp [Value.oneCell']) (by unfold maxLen; omega) (by omega) hDu ?_
      intro v9 u2 hown hgrow _
      have HO := Lib.hid hown
      have HGr := Lib.hid hgrow
      clear hown hgrow
      try go_simp
      refine hK _ _ ?_
      clear hK K
      have hown := HO.out
      have hgrow := HGr.out
      exact L1_2_3_12.out u2 bA bC v9 (BL.out.grown hgrow hDu (fun j e => (RT.out.lt j e).1)) (Nat.le_trans SZ.out hgrow.size) hown (World.ownsRow.kept RG.out hgrow (own_apart RG.out RT.out (by decide))) (World.ownsRow.kept RB.out hgrow (own_apart RB.out RT.out (by decide))) (SC.out.grown hgrow (fun j e => by have := hltH.out j e; have := SCb.out; omega)) SCb.out
    · go_simp
      refine hK _ _ ?_
      clear hK K
      exact L1_2_8_12.out _ bA bC BL.out SZ.out RT.out RG.out RB.out SA.out SAb.out SC.out SCb.out)
  have L1_8_9 := Lib.hid (show ∀ (u : World) (bB : Nat), Below D w3 u → w3.heap.size ≤ u.heap.size → u.ownsRow D 33 2 vt es.length (ehs es) → u.ownsRow D 61 2 vg es.length (ets es) → u.ownsRow D 4 1 vb es.length (egs es) → Two u bB (.int .i64 x.1) (.string x.2) → w3.heap.size ≤ bB → wpAny Try.prog .any pushOps Q 8 #[true, true, false, false, true, true, true, true, true, true, false, true, false, false, false, false, false] { tmps := #[u0, .slice (some ⟨lb, lo, none⟩) len1 cap1, u2, u3, u4, u5, u6, u7, u8, vt, vg, vb, .int .i64 (k : Int), .pointer (some ⟨H, 0, none⟩), u14, u15, u16, u17, u18, u19, u20, u21, u22, u23, u24, u25, u26, u27, u28, u29, u30, u31, u32, u33, u34, u35, u36, u37, u38, u39, u40, u41, u42, u43, u44, u45, u46, u47, u48, u49, u50, u51, u52, u53, u54, u55, u56, u57, u58, u59, u60, u61, u62, u63, u64, vt, .agg #[.int .i64 (sl : Int), .int .i64 (gn : Int)], u67, u68, vg, .slice (some ⟨lb, lo, none⟩) len1 cap1, .int .i64 (k : Int), .pointer (some ⟨lb, lo + k * 2, none⟩), .agg #[.int .i64 x.1, .string x.2], .slice (some ⟨bB, 0, none⟩) 1 1, u75, vb, u77, u78, u79, u80, u81, u82, u83, u84, u85, u86, u87, u88, u89, u90, u91, u92, u93, u94, u95, u96, u97, u98, u99, u100, u101, u102, u103, u104, u105, u106, u107, u108, u109, u110, u111, u112, u113, u114, u115, u116, u117, u118, u119, u120, u121, u122, u123, u124, u125, u126, u127, u128, u129, u130, u131, u132, u133, u134, u135, u136, u137, u138, u139, u140, u141, u142, u143, u144, u145, u146, u147, u148, u149, u150, u151, u152, u153, u154, u155, u156, u157, u158, u159, u160, u161, u162, u163, u164, u165, u166, u167, u168, u169, u170, u171, u172, u173, u174], defers := [] } u from by
    intro u bB BL SZ RT RG RB SB SBb
    have BL := Lib.hid BL
    have SZ := Lib.hid SZ
    have RT := Lib.hid RT
    have RG := Lib.hid RG
    have RB := Lib.hid RB
    have SB := Lib.hid SB
    have SBb := Lib.hid SBb
    have hDu : D ≤ u.heap.size := Nat.le_trans hD SZ.out
    refine wpAny_ready (rs := [2, 12]) (by kernel_rfl) (by simp) ?_
    refine AllReady.cons (o := { dst := some 67, op := Op.buildSlice 50 1 #[(0, Operand.tmp 66)], type := 50, pos := "law.go:133", after := #[{ on := 1, ground := Ground.data }], guard := none }) rfl (fun K hK => ?_) (AllReady.cons (o := { dst := some 77, op := Op.buildSlice 62 1 #[(0, Operand.const (Value.bool false))], type := 62, pos := "law.go:133", after := #[], guard := none }) rfl (fun K hK => ?_) AllReady.nil)
    · go_simp
      refine hK _ _ ?_
      clear hK K
      exact L1_2_8_9.out (u.alloc (.cells #[.int .i64 (sl : Int), .int .i64 (gn : Int)] 33)) u.heap.size bB (BL.out.alloc hDu (.cells #[.int .i64 (sl : Int), .int .i64 (gn : Int)] 33)) (by have := SZ.out; simp; omega) (World.ownsRow.alloc RT.out _) (World.ownsRow.alloc RG.out _) (World.ownsRow.alloc RB.out _) (Two.new u (.int .i64 (sl : Int)) (.int .i64 (gn : Int)) _) SZ.out (SB.out.alloc _) SBb.out
    · go_simp
      refine hK _ _ ?_
      clear hK K
      exact L1_8_9_12.out (u.alloc (.cells #[.bool false] 4)) bB u.heap.size (BL.out.alloc hDu (.cells #[.bool false] 4)) (by have := SZ.out; simp; omega) (World.ownsRow.alloc RT.out _) (World.ownsRow.alloc RG.out _) (World.ownsRow.alloc RB.out _) (SB.out.alloc _) SBb.out (One.new u (.bool false) _) SZ.out)
  have L1_8_12 := Lib.hid (show ∀ (u : World) (bC : Nat), Below D w3 u → w3.heap.size ≤ u.heap.size → u.ownsRow D 33 2 vt es.length (ehs es) → u.ownsRow D 61 2 vg es.length (ets es) → u.ownsRow D 4 1 vb es.length (egs es) → One u bC (.bool false) → w3.heap.size ≤ bC → wpAny Try.prog .any pushOps Q 8 #[true, true, false, false, true, true, true, true, true, false, false, true, true, false, false, false, false] { tmps := #[u0, .slice (some ⟨lb, lo, none⟩) len1 cap1, u2, u3, u4, u5, u6, u7, u8, vt, vg, vb, .int .i64 (k : Int), .pointer (some ⟨H, 0, none⟩), u14, u15, u16, u17, u18, u19, u20, u21, u22, u23, u24, u25, u26, u27, u28, u29, u30, u31, u32, u33, u34, u35, u36, u37, u38, u39, u40, u41, u42, u43, u44, u45, u46, u47, u48, u49, u50, u51, u52, u53, u54, u55, u56, u57, u58, u59, u60, u61, u62, u63, u64, vt, .agg #[.int .i64 (sl : Int), .int .i64 (gn : Int)], u67, u68, vg, .slice (some ⟨lb, lo, none⟩) len1 cap1, .int .i64 (k : Int), .pointer (some ⟨lb, lo + k * 2, none⟩), .agg #[.int .i64 x.1, .string x.2], u74, u75, vb, .slice (some ⟨bC, 0, none⟩) 1 1, u78, u79, u80, u81, u82, u83, u84, u85, u86, u87, u88, u89, u90, u91, u92, u93, u94, u95, u96, u97, u98, u99, u100, u101, u102, u103, u104, u105, u106, u107, u108, u109, u110, u111, u112, u113, u114, u115, u116, u117, u118, u119, u120, u121, u122, u123, u124, u125, u126, u127, u128, u129, u130, u131, u132, u133, u134, u135, u136, u137, u138, u139, u140, u141, u142, u143, u144, u145, u146, u147, u148, u149, u150, u151, u152, u153, u154, u155, u156, u157, u158, u159, u160, u161, u162, u163, u164, u165, u166, u167, u168, u169, u170, u171, u172, u173, u174], defers := [] } u from by
    intro u bC BL SZ RT RG RB SC SCb
    have BL := Lib.hid BL
    have SZ := Lib.hid SZ
    have RT := Lib.hid RT
    have RG := Lib.hid RG
    have RB := Lib.hid RB
    have SC := Lib.hid SC
    have SCb := Lib.hid SCb
    have hDu : D ≤ u.heap.size := Nat.le_trans hD SZ.out
    refine wpAny_ready (rs := [2, 9]) (by kernel_rfl) (by simp) ?_
    refine AllReady.cons (o := { dst := some 67, op := Op.buildSlice 50 1 #[(0, Operand.tmp 66)], type := 50, pos := "law.go:133", after := #[{ on := 1, ground := Ground.data }], guard := none }) rfl (fun K hK => ?_) (AllReady.cons (o := { dst := some 74, op := Op.buildSlice 55 1 #[(0, Operand.tmp 73)], type := 55, pos := "law.go:133", after := #[{ on := 8, ground := Ground.data }], guard := none }) rfl (fun K hK => ?_) AllReady.nil)
    · go_simp
      refine hK _ _ ?_
      clear hK K
      exact L1_2_8_12.out (u.alloc (.cells #[.int .i64 (sl : Int), .int .i64 (gn : Int)] 33)) u.heap.size bC (BL.out.alloc hDu (.cells #[.int .i64 (sl : Int), .int .i64 (gn : Int)] 33)) (by have := SZ.out; simp; omega) (World.ownsRow.alloc RT.out _) (World.ownsRow.alloc RG.out _) (World.ownsRow.alloc RB.out _) (Two.new u (.int .i64 (sl : Int)) (.int .i64 (gn : Int)) _) SZ.out (SC.out.alloc _) SCb.out
    · go_simp
      refine hK _ _ ?_
      clear hK K
      exact L1_8_9_12.out (u.alloc (.cells #[.int .i64 x.1, .string x.2] 61)) u.heap.size bC (BL.out.alloc hDu (.cells #[.int .i64 x.1, .string x.2] 61)) (by have := SZ.out; simp; omega) (World.ownsRow.alloc RT.out _) (World.ownsRow.alloc RG.out _) (World.ownsRow.alloc RB.out _) (Two.new u (.int .i64 x.1) (.string x.2) _) SZ.out (SC.out.alloc _) SCb.out)
  have L8_9_12 := Lib.hid (show ∀ (u : World) (bB : Nat) (bC : Nat), Below D w3 u → w3.heap.size ≤ u.heap.size → u.ownsRow D 33 2 vt es.length (ehs es) → u.ownsRow D 61 2 vg es.length (ets es) → u.ownsRow D 4 1 vb es.length (egs es) → Two u H (.int .i64 (sl : Int)) (.int .i64 (gn : Int)) → Two u bB (.int .i64 x.1) (.string x.2) → w3.heap.size ≤ bB → One u bC (.bool false) → w3.heap.size ≤ bC → wpAny Try.prog .any pushOps Q 8 #[true, false, false, false, true, true, true, true, true, true, false, true, true, false, false, false, false] { tmps := #[u0, .slice (some ⟨lb, lo, none⟩) len1 cap1, u2, u3, u4, u5, u6, u7, u8, vt, vg, vb, .int .i64 (k : Int), .pointer (some ⟨H, 0, none⟩), u14, u15, u16, u17, u18, u19, u20, u21, u22, u23, u24, u25, u26, u27, u28, u29, u30, u31, u32, u33, u34, u35, u36, u37, u38, u39, u40, u41, u42, u43, u44, u45, u46, u47, u48, u49, u50, u51, u52, u53, u54, u55, u56, u57, u58, u59, u60, u61, u62, u63, u64, vt, u66, u67, u68, vg, .slice (some ⟨lb, lo, none⟩) len1 cap1, .int .i64 (k : Int), .pointer (some ⟨lb, lo + k * 2, none⟩), .agg #[.int .i64 x.1, .string x.2], .slice (some ⟨bB, 0, none⟩) 1 1, u75, vb, .slice (some ⟨bC, 0, none⟩) 1 1, u78, u79, u80, u81, u82, u83, u84, u85, u86, u87, u88, u89, u90, u91, u92, u93, u94, u95, u96, u97, u98, u99, u100, u101, u102, u103, u104, u105, u106, u107, u108, u109, u110, u111, u112, u113, u114, u115, u116, u117, u118, u119, u120, u121, u122, u123, u124, u125, u126, u127, u128, u129, u130, u131, u132, u133, u134, u135, u136, u137, u138, u139, u140, u141, u142, u143, u144, u145, u146, u147, u148, u149, u150, u151, u152, u153, u154, u155, u156, u157, u158, u159, u160, u161, u162, u163, u164, u165, u166, u167, u168, u169, u170, u171, u172, u173, u174], defers := [] } u from by
    intro u bB bC BL SZ RT RG RB HB SB SBb SC SCb
    have BL := Lib.hid BL
    have SZ := Lib.hid SZ
    have RT := Lib.hid RT
    have RG := Lib.hid RG
    have RB := Lib.hid RB
    have HB := Lib.hid HB
    have SB := Lib.hid SB
    have SBb := Lib.hid SBb
    have SC := Lib.hid SC
    have SCb := Lib.hid SCb
    have hDu : D ≤ u.heap.size := Nat.le_trans hD SZ.out
    have b0 := HB.out.c0
    have b1 := HB.out.c1
    refine wpAny_ready (rs := [1]) (by kernel_rfl) (by simp) ?_
    refine AllReady.cons (o := { dst := some 66, op := Op.load 33 (Operand.tmp 13), type := 33, pos := "law.go:133", after := #[], guard := none }) rfl (fun K hK => ?_) AllReady.nil
    · go_simp
      refine hK _ _ ?_
      clear hK K
      exact L1_8_9_12.out _ bB bC BL.out SZ.out RT.out RG.out RB.out SB.out SBb.out SC.out SCb.out)
  have L1_2 := Lib.hid (show ∀ (u : World) (bA : Nat), Below D w3 u → w3.heap.size ≤ u.heap.size → u.ownsRow D 33 2 vt es.length (ehs es) → u.ownsRow D 61 2 vg es.length (ets es) → u.ownsRow D 4 1 vb es.length (egs es) → Two u bA (.int .i64 (sl : Int)) (.int .i64 (gn : Int)) → w3.heap.size ≤ bA → wpAny Try.prog .any pushOps Q 9 #[true, true, true, false, true, true, true, true, false, false, false, true, false, false, false, false, false] { tmps := #[u0, .slice (some ⟨lb, lo, none⟩) len1 cap1, u2, u3, u4, u5, u6, u7, u8, vt, vg, vb, .int .i64 (k : Int), .pointer (some ⟨H, 0, none⟩), u14, u15, u16, u17, u18, u19, u20, u21, u22, u23, u24, u25, u26, u27, u28, u29, u30, u31, u32, u33, u34, u35, u36, u37, u38, u39, u40, u41, u42, u43, u44, u45, u46, u47, u48, u49, u50, u51, u52, u53, u54, u55, u56, u57, u58, u59, u60, u61, u62, u63, u64, vt, .agg #[.int .i64 (sl : Int), .int .i64 (gn : Int)], .slice (some ⟨bA, 0, none⟩) 1 1, u68, vg, .slice (some ⟨lb, lo, none⟩) len1 cap1, .int .i64 (k : Int), .pointer (some ⟨lb, lo + k * 2, none⟩), u73, u74, u75, vb, u77, u78, u79, u80, u81, u82, u83, u84, u85, u86, u87, u88, u89, u90, u91, u92, u93, u94, u95, u96, u97, u98, u99, u100, u101, u102, u103, u104, u105, u106, u107, u108, u109, u110, u111, u112, u113, u114, u115, u116, u117, u118, u119, u120, u121, u122, u123, u124, u125, u126, u127, u128, u129, u130, u131, u132, u133, u134, u135, u136, u137, u138, u139, u140, u141, u142, u143, u144, u145, u146, u147, u148, u149, u150, u151, u152, u153, u154, u155, u156, u157, u158, u159, u160, u161, u162, u163, u164, u165, u166, u167, u168, u169, u170, u171, u172, u173, u174], defers := [] } u from by
    intro u bA BL SZ RT RG RB SA SAb
    have BL := Lib.hid BL
    have SZ := Lib.hid SZ
    have RT := Lib.hid RT
    have RG := Lib.hid RG
    have RB := Lib.hid RB
    have SA := Lib.hid SA
    have SAb := Lib.hid SAb
    have hDu : D ≤ u.heap.size := Nat.le_trans hD SZ.out
    have l0 := (BL.out.cell (p := ⟨lb, lo + k * 2, none⟩) hlb).trans HC.out.1
    have l1 := (BL.out.cell (p := ⟨lb, lo + k * 2 + 1, none⟩) hlb).trans HC.out.2
    refine wpAny_ready (rs := [3, 8, 12]) (by kernel_rfl) (by simp) ?_
    refine AllReady.cons (o := { dst := some 68, op := Op.call { callee := Callee.builtin Builtin.append, args := #[Operand.tmp 65, Operand.tmp 67], argTypes := #[50, 50] }, type := 50, pos := "law.go:133", after := #[{ on := 0, ground := Ground.data }, { on := 2, ground := Ground.data }], guard := none }) rfl (fun K hK => ?_) (AllReady.cons (o := { dst := some 73, op := Op.load 61 (Operand.tmp 72), type := 61, pos := "law.go:133", after := #[{ on := 7, ground := Ground.data }], guard := none }) rfl (fun K hK => ?_) (AllReady.cons (o := { dst := some 77, op := Op.buildSlice 62 1 #[(0, Operand.const (Value.bool false))], type := 62, pos := "law.go:133", after := #[], guard := none }) rfl (fun K hK => ?_) AllReady.nil))
    · refine step_append_own rfl _ _ 50 rfl D 33 iH (.agg #[.int .i64 0, .int .i64 0]) 2 16 Try.underlying50 hIH hz0H hz1H hz2H rfl (by decide) vt es.length (ehs es) (by simp [Act.eval]) RT.out ⟨bA, 0, none⟩ 1 1 [.int .i64 (sl : Int), .int .i64 (gn : Int)] (by simp [Act.eval]) rfl SA.out.news (by simp [Value.oneCell']) (by unfold maxLen; omega) (by omega) hDu ?_
      intro v9 u2 hown hgrow _
      have HO := Lib.hid hown
      have HGr := Lib.hid hgrow
      clear hown hgrow
      try go_simp
      refine hK _ _ ?_
      clear hK K
      have hown := HO.out
      have hgrow := HGr.out
      exact L1_2_3.out u2 bA v9 (BL.out.grown hgrow hDu (fun j e => (RT.out.lt j e).1)) (Nat.le_trans SZ.out hgrow.size) hown (World.ownsRow.kept RG.out hgrow (own_apart RG.out RT.out (by decide))) (World.ownsRow.kept RB.out hgrow (own_apart RB.out RT.out (by decide)))
    · go_simp
      refine hK _ _ ?_
      clear hK K
      exact L1_2_8.out _ bA BL.out SZ.out RT.out RG.out RB.out SA.out SAb.out
    · go_simp
      refine hK _ _ ?_
      clear hK K
      exact L1_2_12.out (u.alloc (.cells #[.bool false] 4)) bA u.heap.size (BL.out.alloc hDu (.cells #[.bool false] 4)) (by have := SZ.out; simp; omega) (World.ownsRow.alloc RT.out _) (World.ownsRow.alloc RG.out _) (World.ownsRow.alloc RB.out _) (SA.out.alloc _) SAb.out (One.new u (.bool false) _) SZ.out)
  have L1_8 := Lib.hid (show ∀ (u : World), Below D w3 u → w3.heap.size ≤ u.heap.size → u.ownsRow D 33 2 vt es.length (ehs es) → u.ownsRow D 61 2 vg es.length (ets es) → u.ownsRow D 4 1 vb es.length (egs es) → wpAny Try.prog .any pushOps Q 9 #[true, true, false, false, true, true, true, true, true, false, false, true, false, false, false, false, false] { tmps := #[u0, .slice (some ⟨lb, lo, none⟩) len1 cap1, u2, u3, u4, u5, u6, u7, u8, vt, vg, vb, .int .i64 (k : Int), .pointer (some ⟨H, 0, none⟩), u14, u15, u16, u17, u18, u19, u20, u21, u22, u23, u24, u25, u26, u27, u28, u29, u30, u31, u32, u33, u34, u35, u36, u37, u38, u39, u40, u41, u42, u43, u44, u45, u46, u47, u48, u49, u50, u51, u52, u53, u54, u55, u56, u57, u58, u59, u60, u61, u62, u63, u64, vt, .agg #[.int .i64 (sl : Int), .int .i64 (gn : Int)], u67, u68, vg, .slice (some ⟨lb, lo, none⟩) len1 cap1, .int .i64 (k : Int), .pointer (some ⟨lb, lo + k * 2, none⟩), .agg #[.int .i64 x.1, .string x.2], u74, u75, vb, u77, u78, u79, u80, u81, u82, u83, u84, u85, u86, u87, u88, u89, u90, u91, u92, u93, u94, u95, u96, u97, u98, u99, u100, u101, u102, u103, u104, u105, u106, u107, u108, u109, u110, u111, u112, u113, u114, u115, u116, u117, u118, u119, u120, u121, u122, u123, u124, u125, u126, u127, u128, u129, u130, u131, u132, u133, u134, u135, u136, u137, u138, u139, u140, u141, u142, u143, u144, u145, u146, u147, u148, u149, u150, u151, u152, u153, u154, u155, u156, u157, u158, u159, u160, u161, u162, u163, u164, u165, u166, u167, u168, u169, u170, u171, u172, u173, u174], defers := [] } u from by
    intro u BL SZ RT RG RB
    have BL := Lib.hid BL
    have SZ := Lib.hid SZ
    have RT := Lib.hid RT
    have RG := Lib.hid RG
    have RB := Lib.hid RB
    have hDu : D ≤ u.heap.size := Nat.le_trans hD SZ.out
    refine wpAny_ready (rs := [2, 9, 12]) (by kernel_rfl) (by simp) ?_
    refine AllReady.cons (o := { dst := some 67, op := Op.buildSlice 50 1 #[(0, Operand.tmp 66)], type := 50, pos := "law.go:133", after := #[{ on := 1, ground := Ground.data }], guard := none }) rfl (fun K hK => ?_) (AllReady.cons (o := { dst := some 74, op := Op.buildSlice 55 1 #[(0, Operand.tmp 73)], type := 55, pos := "law.go:133", after := #[{ on := 8, ground := Ground.data }], guard := none }) rfl (fun K hK => ?_) (AllReady.cons (o := { dst := some 77, op := Op.buildSlice 62 1 #[(0, Operand.const (Value.bool false))], type := 62, pos := "law.go:133", after := #[], guard := none }) rfl (fun K hK => ?_) AllReady.nil))
    · go_simp
      refine hK _ _ ?_
      clear hK K
      exact L1_2_8.out (u.alloc (.cells #[.int .i64 (sl : Int), .int .i64 (gn : Int)] 33)) u.heap.size (BL.out.alloc hDu (.cells #[.int .i64 (sl : Int), .int .i64 (gn : Int)] 33)) (by have := SZ.out; simp; omega) (World.ownsRow.alloc RT.out _) (World.ownsRow.alloc RG.out _) (World.ownsRow.alloc RB.out _) (Two.new u (.int .i64 (sl : Int)) (.int .i64 (gn : Int)) _) SZ.out
    · go_simp
      refine hK _ _ ?_
      clear hK K
      exact L1_8_9.out (u.alloc (.cells #[.int .i64 x.1, .string x.2] 61)) u.heap.size (BL.out.alloc hDu (.cells #[.int .i64 x.1, .string x.2] 61)) (by have := SZ.out; simp; omega) (World.ownsRow.alloc RT.out _) (World.ownsRow.alloc RG.out _) (World.ownsRow.alloc RB.out _) (Two.new u (.int .i64 x.1) (.string x.2) _) SZ.out
    · go_simp
      refine hK _ _ ?_
      clear hK K
      exact L1_8_12.out (u.alloc (.cells #[.bool false] 4)) u.heap.size (BL.out.alloc hDu (.cells #[.bool false] 4)) (by have := SZ.out; simp; omega) (World.ownsRow.alloc RT.out _) (World.ownsRow.alloc RG.out _) (World.ownsRow.alloc RB.out _) (One.new u (.bool false) _) SZ.out)
  have L1_12 := Lib.hid (show ∀ (u : World) (bC : Nat), Below D w3 u → w3.heap.size ≤ u.heap.size → u.ownsRow D 33 2 vt es.length (ehs es) → u.ownsRow D 61 2 vg es.length (ets es) → u.ownsRow D 4 1 vb es.length (egs es) → One u bC (.bool false) → w3.heap.size ≤ bC → wpAny Try.prog .any pushOps Q 9 #[true, true, false, false, true, true, true, true, false, false, false, true, true, false, false, false, false] { tmps := #[u0, .slice (some ⟨lb, lo, none⟩) len1 cap1, u2, u3, u4, u5, u6, u7, u8, vt, vg, vb, .int .i64 (k : Int), .pointer (some ⟨H, 0, none⟩), u14, u15, u16, u17, u18, u19, u20, u21, u22, u23, u24, u25, u26, u27, u28, u29, u30, u31, u32, u33, u34, u35, u36, u37, u38, u39, u40, u41, u42, u43, u44, u45, u46, u47, u48, u49, u50, u51, u52, u53, u54, u55, u56, u57, u58, u59, u60, u61, u62, u63, u64, vt, .agg #[.int .i64 (sl : Int), .int .i64 (gn : Int)], u67, u68, vg, .slice (some ⟨lb, lo, none⟩) len1 cap1, .int .i64 (k : Int), .pointer (some ⟨lb, lo + k * 2, none⟩), u73, u74, u75, vb, .slice (some ⟨bC, 0, none⟩) 1 1, u78, u79, u80, u81, u82, u83, u84, u85, u86, u87, u88, u89, u90, u91, u92, u93, u94, u95, u96, u97, u98, u99, u100, u101, u102, u103, u104, u105, u106, u107, u108, u109, u110, u111, u112, u113, u114, u115, u116, u117, u118, u119, u120, u121, u122, u123, u124, u125, u126, u127, u128, u129, u130, u131, u132, u133, u134, u135, u136, u137, u138, u139, u140, u141, u142, u143, u144, u145, u146, u147, u148, u149, u150, u151, u152, u153, u154, u155, u156, u157, u158, u159, u160, u161, u162, u163, u164, u165, u166, u167, u168, u169, u170, u171, u172, u173, u174], defers := [] } u from by
    intro u bC BL SZ RT RG RB SC SCb
    have BL := Lib.hid BL
    have SZ := Lib.hid SZ
    have RT := Lib.hid RT
    have RG := Lib.hid RG
    have RB := Lib.hid RB
    have SC := Lib.hid SC
    have SCb := Lib.hid SCb
    have hDu : D ≤ u.heap.size := Nat.le_trans hD SZ.out
    have l0 := (BL.out.cell (p := ⟨lb, lo + k * 2, none⟩) hlb).trans HC.out.1
    have l1 := (BL.out.cell (p := ⟨lb, lo + k * 2 + 1, none⟩) hlb).trans HC.out.2
    refine wpAny_ready (rs := [2, 8]) (by kernel_rfl) (by simp) ?_
    refine AllReady.cons (o := { dst := some 67, op := Op.buildSlice 50 1 #[(0, Operand.tmp 66)], type := 50, pos := "law.go:133", after := #[{ on := 1, ground := Ground.data }], guard := none }) rfl (fun K hK => ?_) (AllReady.cons (o := { dst := some 73, op := Op.load 61 (Operand.tmp 72), type := 61, pos := "law.go:133", after := #[{ on := 7, ground := Ground.data }], guard := none }) rfl (fun K hK => ?_) AllReady.nil)
    · go_simp
      refine hK _ _ ?_
      clear hK K
      exact L1_2_12.out (u.alloc (.cells #[.int .i64 (sl : Int), .int .i64 (gn : Int)] 33)) u.heap.size bC (BL.out.alloc hDu (.cells #[.int .i64 (sl : Int), .int .i64 (gn : Int)] 33)) (by have := SZ.out; simp; omega) (World.ownsRow.alloc RT.out _) (World.ownsRow.alloc RG.out _) (World.ownsRow.alloc RB.out _) (Two.new u (.int .i64 (sl : Int)) (.int .i64 (gn : Int)) _) SZ.out (SC.out.alloc _) SCb.out
    · go_simp
      refine hK _ _ ?_
      clear hK K
      exact L1_8_12.out _ bC BL.out SZ.out RT.out RG.out RB.out SC.out SCb.out)
  have L8_9 := Lib.hid (show ∀ (u : World) (bB : Nat), Below D w3 u → w3.heap.size ≤ u.heap.size → u.ownsRow D 33 2 vt es.length (ehs es) → u.ownsRow D 61 2 vg es.length (ets es) → u.ownsRow D 4 1 vb es.length (egs es) → Two u H (.int .i64 (sl : Int)) (.int .i64 (gn : Int)) → Two u bB (.int .i64 x.1) (.string x.2) → w3.heap.size ≤ bB → wpAny Try.prog .any pushOps Q 9 #[true, false, false, false, true, true, true, true, true, true, false, true, false, false, false, false, false] { tmps := #[u0, .slice (some ⟨lb, lo, none⟩) len1 cap1, u2, u3, u4, u5, u6, u7, u8, vt, vg, vb, .int .i64 (k : Int), .pointer (some ⟨H, 0, none⟩), u14, u15, u16, u17, u18, u19, u20, u21, u22, u23, u24, u25, u26, u27, u28, u29, u30, u31, u32, u33, u34, u35, u36, u37, u38, u39, u40, u41, u42, u43, u44, u45, u46, u47, u48, u49, u50, u51, u52, u53, u54, u55, u56, u57, u58, u59, u60, u61, u62, u63, u64, vt, u66, u67, u68, vg, .slice (some ⟨lb, lo, none⟩) len1 cap1, .int .i64 (k : Int), .pointer (some ⟨lb, lo + k * 2, none⟩), .agg #[.int .i64 x.1, .string x.2], .slice (some ⟨bB, 0, none⟩) 1 1, u75, vb, u77, u78, u79, u80, u81, u82, u83, u84, u85, u86, u87, u88, u89, u90, u91, u92, u93, u94, u95, u96, u97, u98, u99, u100, u101, u102, u103, u104, u105, u106, u107, u108, u109, u110, u111, u112, u113, u114, u115, u116, u117, u118, u119, u120, u121, u122, u123, u124, u125, u126, u127, u128, u129, u130, u131, u132, u133, u134, u135, u136, u137, u138, u139, u140, u141, u142, u143, u144, u145, u146, u147, u148, u149, u150, u151, u152, u153, u154, u155, u156, u157, u158, u159, u160, u161, u162, u163, u164, u165, u166, u167, u168, u169, u170, u171, u172, u173, u174], defers := [] } u from by
    intro u bB BL SZ RT RG RB HB SB SBb
    have BL := Lib.hid BL
    have SZ := Lib.hid SZ
    have RT := Lib.hid RT
    have RG := Lib.hid RG
    have RB := Lib.hid RB
    have HB := Lib.hid HB
    have SB := Lib.hid SB
    have SBb := Lib.hid SBb
    have hDu : D ≤ u.heap.size := Nat.le_trans hD SZ.out
    have b0 := HB.out.c0
    have b1 := HB.out.c1
    refine wpAny_ready (rs := [1, 12]) (by kernel_rfl) (by simp) ?_
    refine AllReady.cons (o := { dst := some 66, op := Op.load 33 (Operand.tmp 13), type := 33, pos := "law.go:133", after := #[], guard := none }) rfl (fun K hK => ?_) (AllReady.cons (o := { dst := some 77, op := Op.buildSlice 62 1 #[(0, Operand.const (Value.bool false))], type := 62, pos := "law.go:133", after := #[], guard := none }) rfl (fun K hK => ?_) AllReady.nil)
    · go_simp
      refine hK _ _ ?_
      clear hK K
      exact L1_8_9.out _ bB BL.out SZ.out RT.out RG.out RB.out SB.out SBb.out
    · go_simp
      refine hK _ _ ?_
      clear hK K
      exact L8_9_12.out (u.alloc (.cells #[.bool false] 4)) bB u.heap.size (BL.out.alloc hDu (.cells #[.bool false] 4)) (by have := SZ.out; simp; omega) (World.ownsRow.alloc RT.out _) (World.ownsRow.alloc RG.out _) (World.ownsRow.alloc RB.out _) (HB.out.alloc _) (SB.out.alloc _) SBb.out (One.new u (.bool false) _) SZ.out)
  have L8_12 := Lib.hid (show ∀ (u : World) (bC : Nat), Below D w3 u → w3.heap.size ≤ u.heap.size → u.ownsRow D 33 2 vt es.length (ehs es) → u.ownsRow D 61 2 vg es.length (ets es) → u.ownsRow D 4 1 vb es.length (egs es) → Two u H (.int .i64 (sl : Int)) (.int .i64 (gn : Int)) → One u bC (.bool false) → w3.heap.size ≤ bC → wpAny Try.prog .any pushOps Q 9 #[true, false, false, false, true, true, true, true, true, false, false, true, true, false, false, false, false] { tmps := #[u0, .slice (some ⟨lb, lo, none⟩) len1 cap1, u2, u3, u4, u5, u6, u7, u8, vt, vg, vb, .int .i64 (k : Int), .pointer (some ⟨H, 0, none⟩), u14, u15, u16, u17, u18, u19, u20, u21, u22, u23, u24, u25, u26, u27, u28, u29, u30, u31, u32, u33, u34, u35, u36, u37, u38, u39, u40, u41, u42, u43, u44, u45, u46, u47, u48, u49, u50, u51, u52, u53, u54, u55, u56, u57, u58, u59, u60, u61, u62, u63, u64, vt, u66, u67, u68, vg, .slice (some ⟨lb, lo, none⟩) len1 cap1, .int .i64 (k : Int), .pointer (some ⟨lb, lo + k * 2, none⟩), .agg #[.int .i64 x.1, .string x.2], u74, u75, vb, .slice (some ⟨bC, 0, none⟩) 1 1, u78, u79, u80, u81, u82, u83, u84, u85, u86, u87, u88, u89, u90, u91, u92, u93, u94, u95, u96, u97, u98, u99, u100, u101, u102, u103, u104, u105, u106, u107, u108, u109, u110, u111, u112, u113, u114, u115, u116, u117, u118, u119, u120, u121, u122, u123, u124, u125, u126, u127, u128, u129, u130, u131, u132, u133, u134, u135, u136, u137, u138, u139, u140, u141, u142, u143, u144, u145, u146, u147, u148, u149, u150, u151, u152, u153, u154, u155, u156, u157, u158, u159, u160, u161, u162, u163, u164, u165, u166, u167, u168, u169, u170, u171, u172, u173, u174], defers := [] } u from by
    intro u bC BL SZ RT RG RB HB SC SCb
    have BL := Lib.hid BL
    have SZ := Lib.hid SZ
    have RT := Lib.hid RT
    have RG := Lib.hid RG
    have RB := Lib.hid RB
    have HB := Lib.hid HB
    have SC := Lib.hid SC
    have SCb := Lib.hid SCb
    have hDu : D ≤ u.heap.size := Nat.le_trans hD SZ.out
    have b0 := HB.out.c0
    have b1 := HB.out.c1
    refine wpAny_ready (rs := [1, 9]) (by kernel_rfl) (by simp) ?_
    refine AllReady.cons (o := { dst := some 66, op := Op.load 33 (Operand.tmp 13), type := 33, pos := "law.go:133", after := #[], guard := none }) rfl (fun K hK => ?_) (AllReady.cons (o := { dst := some 74, op := Op.buildSlice 55 1 #[(0, Operand.tmp 73)], type := 55, pos := "law.go:133", after := #[{ on := 8, ground := Ground.data }], guard := none }) rfl (fun K hK => ?_) AllReady.nil)
    · go_simp
      refine hK _ _ ?_
      clear hK K
      exact L1_8_12.out _ bC BL.out SZ.out RT.out RG.out RB.out SC.out SCb.out
    · go_simp
      refine hK _ _ ?_
      clear hK K
      exact L8_9_12.out (u.alloc (.cells #[.int .i64 x.1, .string x.2] 61)) u.heap.size bC (BL.out.alloc hDu (.cells #[.int .i64 x.1, .string x.2] 61)) (by have := SZ.out; simp; omega) (World.ownsRow.alloc RT.out _) (World.ownsRow.alloc RG.out _) (World.ownsRow.alloc RB.out _) (HB.out.alloc _) (Two.new u (.int .i64 x.1) (.string x.2) _) SZ.out (SC.out.alloc _) SCb.out)
  have L1 := Lib.hid (show ∀ (u : World), Below D w3 u → w3.heap.size ≤ u.heap.size → u.ownsRow D 33 2 vt es.length (ehs es) → u.ownsRow D 61 2 vg es.length (ets es) → u.ownsRow D 4 1 vb es.length (egs es) → wpAny Try.prog .any pushOps Q 10 #[true, true, false, false, true, true, true, true, false, false, false, true, false, false, false, false, false] { tmps := #[u0, .slice (some ⟨lb, lo, none⟩) len1 cap1, u2, u3, u4, u5, u6, u7, u8, vt, vg, vb, .int .i64 (k : Int), .pointer (some ⟨H, 0, none⟩), u14, u15, u16, u17, u18, u19, u20, u21, u22, u23, u24, u25, u26, u27, u28, u29, u30, u31, u32, u33, u34, u35, u36, u37, u38, u39, u40, u41, u42, u43, u44, u45, u46, u47, u48, u49, u50, u51, u52, u53, u54, u55, u56, u57, u58, u59, u60, u61, u62, u63, u64, vt, .agg #[.int .i64 (sl : Int), .int .i64 (gn : Int)], u67, u68, vg, .slice (some ⟨lb, lo, none⟩) len1 cap1, .int .i64 (k : Int), .pointer (some ⟨lb, lo + k * 2, none⟩), u73, u74, u75, vb, u77, u78, u79, u80, u81, u82, u83, u84, u85, u86, u87, u88, u89, u90, u91, u92, u93, u94, u95, u96, u97, u98, u99, u100, u101, u102, u103, u104, u105, u106, u107, u108, u109, u110, u111, u112, u113, u114, u115, u116, u117, u118, u119, u120, u121, u122, u123, u124, u125, u126, u127, u128, u129, u130, u131, u132, u133, u134, u135, u136, u137, u138, u139, u140, u141, u142, u143, u144, u145, u146, u147, u148, u149, u150, u151, u152, u153, u154, u155, u156, u157, u158, u159, u160, u161, u162, u163, u164, u165, u166, u167, u168, u169, u170, u171, u172, u173, u174], defers := [] } u from by
    intro u BL SZ RT RG RB
    have BL := Lib.hid BL
    have SZ := Lib.hid SZ
    have RT := Lib.hid RT
    have RG := Lib.hid RG
    have RB := Lib.hid RB
    have hDu : D ≤ u.heap.size := Nat.le_trans hD SZ.out
    have l0 := (BL.out.cell (p := ⟨lb, lo + k * 2, none⟩) hlb).trans HC.out.1
    have l1 := (BL.out.cell (p := ⟨lb, lo + k * 2 + 1, none⟩) hlb).trans HC.out.2
    refine wpAny_ready (rs := [2, 8, 12]) (by kernel_rfl) (by simp) ?_
    refine AllReady.cons (o := { dst := some 67, op := Op.buildSlice 50 1 #[(0, Operand.tmp 66)], type := 50, pos := "law.go:133", after := #[{ on := 1, ground := Ground.data }], guard := none }) rfl (fun K hK => ?_) (AllReady.cons (o := { dst := some 73, op := Op.load 61 (Operand.tmp 72), type := 61, pos := "law.go:133", after := #[{ on := 7, ground := Ground.data }], guard := none }) rfl (fun K hK => ?_) (AllReady.cons (o := { dst := some 77, op := Op.buildSlice 62 1 #[(0, Operand.const (Value.bool false))], type := 62, pos := "law.go:133", after := #[], guard := none }) rfl (fun K hK => ?_) AllReady.nil))
    · go_simp
      refine hK _ _ ?_
      clear hK K
      exact L1_2.out (u.alloc (.cells #[.int .i64 (sl : Int), .int .i64 (gn : Int)] 33)) u.heap.size (BL.out.alloc hDu (.cells #[.int .i64 (sl : Int), .int .i64 (gn : Int)] 33)) (by have := SZ.out; simp; omega) (World.ownsRow.alloc RT.out _) (World.ownsRow.alloc RG.out _) (World.ownsRow.alloc RB.out _) (Two.new u (.int .i64 (sl : Int)) (.int .i64 (gn : Int)) _) SZ.out
    · go_simp
      refine hK _ _ ?_
      clear hK K
      exact L1_8.out _ BL.out SZ.out RT.out RG.out RB.out
    · go_simp
      refine hK _ _ ?_
      clear hK K
      exact L1_12.out (u.alloc (.cells #[.bool false] 4)) u.heap.size (BL.out.alloc hDu (.cells #[.bool false] 4)) (by have := SZ.out; simp; omega) (World.ownsRow.alloc RT.out _) (World.ownsRow.alloc RG.out _) (World.ownsRow.alloc RB.out _) (One.new u (.bool false) _) SZ.out)
  have L8 := Lib.hid (show ∀ (u : World), Below D w3 u → w3.heap.size ≤ u.heap.size → u.ownsRow D 33 2 vt es.length (ehs es) → u.ownsRow D 61 2 vg es.length (ets es) → u.ownsRow D 4 1 vb es.length (egs es) → Two u H (.int .i64 (sl : Int)) (.int .i64 (gn : Int)) → wpAny Try.prog .any pushOps Q 10 #[true, false, false, false, true, true, true, true, true, false, false, true, false, false, false, false, false] { tmps := #[u0, .slice (some ⟨lb, lo, none⟩) len1 cap1, u2, u3, u4, u5, u6, u7, u8, vt, vg, vb, .int .i64 (k : Int), .pointer (some ⟨H, 0, none⟩), u14, u15, u16, u17, u18, u19, u20, u21, u22, u23, u24, u25, u26, u27, u28, u29, u30, u31, u32, u33, u34, u35, u36, u37, u38, u39, u40, u41, u42, u43, u44, u45, u46, u47, u48, u49, u50, u51, u52, u53, u54, u55, u56, u57, u58, u59, u60, u61, u62, u63, u64, vt, u66, u67, u68, vg, .slice (some ⟨lb, lo, none⟩) len1 cap1, .int .i64 (k : Int), .pointer (some ⟨lb, lo + k * 2, none⟩), .agg #[.int .i64 x.1, .string x.2], u74, u75, vb, u77, u78, u79, u80, u81, u82, u83, u84, u85, u86, u87, u88, u89, u90, u91, u92, u93, u94, u95, u96, u97, u98, u99, u100, u101, u102, u103, u104, u105, u106, u107, u108, u109, u110, u111, u112, u113, u114, u115, u116, u117, u118, u119, u120, u121, u122, u123, u124, u125, u126, u127, u128, u129, u130, u131, u132, u133, u134, u135, u136, u137, u138, u139, u140, u141, u142, u143, u144, u145, u146, u147, u148, u149, u150, u151, u152, u153, u154, u155, u156, u157, u158, u159, u160, u161, u162, u163, u164, u165, u166, u167, u168, u169, u170, u171, u172, u173, u174], defers := [] } u from by
    intro u BL SZ RT RG RB HB
    have BL := Lib.hid BL
    have SZ := Lib.hid SZ
    have RT := Lib.hid RT
    have RG := Lib.hid RG
    have RB := Lib.hid RB
    have HB := Lib.hid HB
    have hDu : D ≤ u.heap.size := Nat.le_trans hD SZ.out
    have b0 := HB.out.c0
    have b1 := HB.out.c1
    refine wpAny_ready (rs := [1, 9, 12]) (by kernel_rfl) (by simp) ?_
    refine AllReady.cons (o := { dst := some 66, op := Op.load 33 (Operand.tmp 13), type := 33, pos := "law.go:133", after := #[], guard := none }) rfl (fun K hK => ?_) (AllReady.cons (o := { dst := some 74, op := Op.buildSlice 55 1 #[(0, Operand.tmp 73)], type := 55, pos := "law.go:133", after := #[{ on := 8, ground := Ground.data }], guard := none }) rfl (fun K hK => ?_) (AllReady.cons (o := { dst := some 77, op := Op.buildSlice 62 1 #[(0, Operand.const (Value.bool false))], type := 62, pos := "law.go:133", after := #[], guard := none }) rfl (fun K hK => ?_) AllReady.nil))
    · go_simp
      refine hK _ _ ?_
      clear hK K
      exact L1_8.out _ BL.out SZ.out RT.out RG.out RB.out
    · go_simp
      refine hK _ _ ?_
      clear hK K
      exact L8_9.out (u.alloc (.cells #[.int .i64 x.1, .string x.2] 61)) u.heap.size (BL.out.alloc hDu (.cells #[.int .i64 x.1, .string x.2] 61)) (by have := SZ.out; simp; omega) (World.ownsRow.alloc RT.out _) (World.ownsRow.alloc RG.out _) (World.ownsRow.alloc RB.out _) (HB.out.alloc _) (Two.new u (.int .i64 x.1) (.string x.2) _) SZ.out
    · go_simp
      refine hK _ _ ?_
      clear hK K
      exact L8_12.out (u.alloc (.cells #[.bool false] 4)) u.heap.size (BL.out.alloc hDu (.cells #[.bool false] 4)) (by have := SZ.out; simp; omega) (World.ownsRow.alloc RT.out _) (World.ownsRow.alloc RG.out _) (World.ownsRow.alloc RB.out _) (HB.out.alloc _) (One.new u (.bool false) _) SZ.out)
  have L12 := Lib.hid (show ∀ (u : World) (bC : Nat), Below D w3 u → w3.heap.size ≤ u.heap.size → u.ownsRow D 33 2 vt es.length (ehs es) → u.ownsRow D 61 2 vg es.length (ets es) → u.ownsRow D 4 1 vb es.length (egs es) → Two u H (.int .i64 (sl : Int)) (.int .i64 (gn : Int)) → One u bC (.bool false) → w3.heap.size ≤ bC → wpAny Try.prog .any pushOps Q 10 #[true, false, false, false, true, true, true, true, false, false, false, true, true, false, false, false, false] { tmps := #[u0, .slice (some ⟨lb, lo, none⟩) len1 cap1, u2, u3, u4, u5, u6, u7, u8, vt, vg, vb, .int .i64 (k : Int), .pointer (some ⟨H, 0, none⟩), u14, u15, u16, u17, u18, u19, u20, u21, u22, u23, u24, u25, u26, u27, u28, u29, u30, u31, u32, u33, u34, u35, u36, u37, u38, u39, u40, u41, u42, u43, u44, u45, u46, u47, u48, u49, u50, u51, u52, u53, u54, u55, u56, u57, u58, u59, u60, u61, u62, u63, u64, vt, u66, u67, u68, vg, .slice (some ⟨lb, lo, none⟩) len1 cap1, .int .i64 (k : Int), .pointer (some ⟨lb, lo + k * 2, none⟩), u73, u74, u75, vb, .slice (some ⟨bC, 0, none⟩) 1 1, u78, u79, u80, u81, u82, u83, u84, u85, u86, u87, u88, u89, u90, u91, u92, u93, u94, u95, u96, u97, u98, u99, u100, u101, u102, u103, u104, u105, u106, u107, u108, u109, u110, u111, u112, u113, u114, u115, u116, u117, u118, u119, u120, u121, u122, u123, u124, u125, u126, u127, u128, u129, u130, u131, u132, u133, u134, u135, u136, u137, u138, u139, u140, u141, u142, u143, u144, u145, u146, u147, u148, u149, u150, u151, u152, u153, u154, u155, u156, u157, u158, u159, u160, u161, u162, u163, u164, u165, u166, u167, u168, u169, u170, u171, u172, u173, u174], defers := [] } u from by
    intro u bC BL SZ RT RG RB HB SC SCb
    have BL := Lib.hid BL
    have SZ := Lib.hid SZ
    have RT := Lib.hid RT
    have RG := Lib.hid RG
    have RB := Lib.hid RB
    have HB := Lib.hid HB
    have SC := Lib.hid SC
    have SCb := Lib.hid SCb
    have hDu : D ≤ u.heap.size := Nat.le_trans hD SZ.out
    have b0 := HB.out.c0
    have b1 := HB.out.c1
    have l0 := (BL.out.cell (p := ⟨lb, lo + k * 2, none⟩) hlb).trans HC.out.1
    have l1 := (BL.out.cell (p := ⟨lb, lo + k * 2 + 1, none⟩) hlb).trans HC.out.2
    refine wpAny_ready (rs := [1, 8]) (by kernel_rfl) (by simp) ?_
    refine AllReady.cons (o := { dst := some 66, op := Op.load 33 (Operand.tmp 13), type := 33, pos := "law.go:133", after := #[], guard := none }) rfl (fun K hK => ?_) (AllReady.cons (o := { dst := some 73, op := Op.load 61 (Operand.tmp 72), type := 61, pos := "law.go:133", after := #[{ on := 7, ground := Ground.data }], guard := none }) rfl (fun K hK => ?_) AllReady.nil)
    · go_simp
      refine hK _ _ ?_
      clear hK K
      exact L1_12.out _ bC BL.out SZ.out RT.out RG.out RB.out SC.out SCb.out
    · go_simp
      refine hK _ _ ?_
      clear hK K
      exact L8_12.out _ bC BL.out SZ.out RT.out RG.out RB.out HB.out SC.out SCb.out)
  have L := Lib.hid (show ∀ (u : World), Below D w3 u → w3.heap.size ≤ u.heap.size → u.ownsRow D 33 2 vt es.length (ehs es) → u.ownsRow D 61 2 vg es.length (ets es) → u.ownsRow D 4 1 vb es.length (egs es) → Two u H (.int .i64 (sl : Int)) (.int .i64 (gn : Int)) → wpAny Try.prog .any pushOps Q 11 #[true, false, false, false, true, true, true, true, false, false, false, true, false, false, false, false, false] { tmps := #[u0, .slice (some ⟨lb, lo, none⟩) len1 cap1, u2, u3, u4, u5, u6, u7, u8, vt, vg, vb, .int .i64 (k : Int), .pointer (some ⟨H, 0, none⟩), u14, u15, u16, u17, u18, u19, u20, u21, u22, u23, u24, u25, u26, u27, u28, u29, u30, u31, u32, u33, u34, u35, u36, u37, u38, u39, u40, u41, u42, u43, u44, u45, u46, u47, u48, u49, u50, u51, u52, u53, u54, u55, u56, u57, u58, u59, u60, u61, u62, u63, u64, vt, u66, u67, u68, vg, .slice (some ⟨lb, lo, none⟩) len1 cap1, .int .i64 (k : Int), .pointer (some ⟨lb, lo + k * 2, none⟩), u73, u74, u75, vb, u77, u78, u79, u80, u81, u82, u83, u84, u85, u86, u87, u88, u89, u90, u91, u92, u93, u94, u95, u96, u97, u98, u99, u100, u101, u102, u103, u104, u105, u106, u107, u108, u109, u110, u111, u112, u113, u114, u115, u116, u117, u118, u119, u120, u121, u122, u123, u124, u125, u126, u127, u128, u129, u130, u131, u132, u133, u134, u135, u136, u137, u138, u139, u140, u141, u142, u143, u144, u145, u146, u147, u148, u149, u150, u151, u152, u153, u154, u155, u156, u157, u158, u159, u160, u161, u162, u163, u164, u165, u166, u167, u168, u169, u170, u171, u172, u173, u174], defers := [] } u from by
    intro u BL SZ RT RG RB HB
    have BL := Lib.hid BL
    have SZ := Lib.hid SZ
    have RT := Lib.hid RT
    have RG := Lib.hid RG
    have RB := Lib.hid RB
    have HB := Lib.hid HB
    have hDu : D ≤ u.heap.size := Nat.le_trans hD SZ.out
    have b0 := HB.out.c0
    have b1 := HB.out.c1
    have l0 := (BL.out.cell (p := ⟨lb, lo + k * 2, none⟩) hlb).trans HC.out.1
    have l1 := (BL.out.cell (p := ⟨lb, lo + k * 2 + 1, none⟩) hlb).trans HC.out.2
    refine wpAny_ready (rs := [1, 8, 12]) (by kernel_rfl) (by simp) ?_
    refine AllReady.cons (o := { dst := some 66, op := Op.load 33 (Operand.tmp 13), type := 33, pos := "law.go:133", after := #[], guard := none }) rfl (fun K hK => ?_) (AllReady.cons (o := { dst := some 73, op := Op.load 61 (Operand.tmp 72), type := 61, pos := "law.go:133", after := #[{ on := 7, ground := Ground.data }], guard := none }) rfl (fun K hK => ?_) (AllReady.cons (o := { dst := some 77, op := Op.buildSlice 62 1 #[(0, Operand.const (Value.bool false))], type := 62, pos := "law.go:133", after := #[], guard := none }) rfl (fun K hK => ?_) AllReady.nil))
    · go_simp
      refine hK _ _ ?_
      clear hK K
      exact L1.out _ BL.out SZ.out RT.out RG.out RB.out
    · go_simp
      refine hK _ _ ?_
      clear hK K
      exact L8.out _ BL.out SZ.out RT.out RG.out RB.out HB.out
    · go_simp
      refine hK _ _ ?_
      clear hK K
      exact L12.out (u.alloc (.cells #[.bool false] 4)) u.heap.size (BL.out.alloc hDu (.cells #[.bool false] 4)) (by have := SZ.out; simp; omega) (World.ownsRow.alloc RT.out _) (World.ownsRow.alloc RG.out _) (World.ownsRow.alloc RB.out _) (HB.out.alloc _) (One.new u (.bool false) _) SZ.out)
  have hb0 : (0 : Int) ≤ (k : Int) := by omega
  have hb1 : (k : Int) < (len1 : Int) := by omega
  have ht : ((k : Int)).toNat = k := rfl
  refine wp_region_any (by kernel_rfl) ?_
  change wpAny Try.prog .any pushOps Q 17 #[false, false, false, false, false, false, false, false, false, false, false, false, false, false, false, false, false] { tmps := #[u0, .slice (some ⟨lb, lo, none⟩) len1 cap1, u2, u3, u4, u5, u6, u7, u8, vt, vg, vb, .int .i64 (k : Int), .pointer (some ⟨H, 0, none⟩), u14, u15, u16, u17, u18, u19, u20, u21, u22, u23, u24, u25, u26, u27, u28, u29, u30, u31, u32, u33, u34, u35, u36, u37, u38, u39, u40, u41, u42, u43, u44, u45, u46, u47, u48, u49, u50, u51, u52, u53, u54, u55, u56, u57, u58, u59, u60, u61, u62, u63, u64, u65, u66, u67, u68, u69, u70, u71, u72, u73, u74, u75, u76, u77, u78, u79, u80, u81, u82, u83, u84, u85, u86, u87, u88, u89, u90, u91, u92, u93, u94, u95, u96, u97, u98, u99, u100, u101, u102, u103, u104, u105, u106, u107, u108, u109, u110, u111, u112, u113, u114, u115, u116, u117, u118, u119, u120, u121, u122, u123, u124, u125, u126, u127, u128, u129, u130, u131, u132, u133, u134, u135, u136, u137, u138, u139, u140, u141, u142, u143, u144, u145, u146, u147, u148, u149, u150, u151, u152, u153, u154, u155, u156, u157, u158, u159, u160, u161, u162, u163, u164, u165, u166, u167, u168, u169, u170, u171, u172, u173, u174], defers := [] } (World.drew w3)
  refine wpAny_take (i := 0) (oi := { dst := some 65, op := Op.move (Operand.tmp 9), type := 50, pos := "law.go:133", after := #[], guard := none }) (v := vt) rfl (by kernel_rfl) (by kernel_rfl) (by kernel_rfl) (fun c _ w h => absurd h (hP c _ w)) (Or.inl ⟨by rfl, ?_⟩) ?_
  · intro w
    go_simp
  refine wpAny_take (i := 4) (oi := { dst := some 69, op := Op.move (Operand.tmp 10), type := 55, pos := "law.go:133", after := #[], guard := none }) (v := vg) rfl (by kernel_rfl) (by kernel_rfl) (by kernel_rfl) (fun c _ w h => absurd h (hP c _ w)) (Or.inl ⟨by rfl, ?_⟩) ?_
  · intro w
    go_simp
  refine wpAny_take (i := 5) (oi := { dst := some 70, op := Op.move (Operand.tmp 1), type := 55, pos := "law.go:133", after := #[], guard := none }) (v := .slice (some ⟨lb, lo, none⟩) len1 cap1) rfl (by kernel_rfl) (by kernel_rfl) (by kernel_rfl) (fun c _ w h => absurd h (hP c _ w)) (Or.inl ⟨by rfl, ?_⟩) ?_
  · intro w
    go_simp
  refine wpAny_take (i := 6) (oi := { dst := some 71, op := Op.move (Operand.tmp 12), type := 3, pos := "law.go:133", after := #[], guard := none }) (v := .int .i64 (k : Int)) rfl (by kernel_rfl) (by kernel_rfl) (by kernel_rfl) (fun c _ w h => absurd h (hP c _ w)) (Or.inl ⟨by rfl, ?_⟩) ?_
  · intro w
    go_simp
  refine wpAny_take (i := 7) (oi := { dst := some 72, op := Op.indexAddr 55 (Operand.tmp 70) (Operand.tmp 71), type := 0, pos := "law.go:133", after := #[{ on := 5, ground := Ground.data }, { on := 6, ground := Ground.data }], guard := none }) (v := .pointer (some ⟨lb, lo + k * 2, none⟩)) rfl (by kernel_rfl) (by kernel_rfl) (by kernel_rfl) (fun c _ w h => absurd h (hP c _ w)) (Or.inl ⟨by rfl, ?_⟩) ?_
  · intro w
    go_simp
  refine wpAny_take (i := 11) (oi := { dst := some 76, op := Op.move (Operand.tmp 11), type := 62, pos := "law.go:133", after := #[], guard := none }) (v := vb) rfl (by kernel_rfl) (by kernel_rfl) (by kernel_rfl) (fun c _ w h => absurd h (hP c _ w)) (Or.inl ⟨by rfl, ?_⟩) ?_
  · intro w
    go_simp
  exact L.out (World.drew w3) (below_drewN (Below.refl D w3) 1) (Nat.le_refl _) HR.out.t HR.out.g HR.out.b ⟨HB0.out.c0, HB0.out.c1⟩

theorem finds_push {w3 : World} {D H sl gn lb lo len1 cap1 k : Nat} {x : Th} {vt vg vb : Value} {es : List Ent}
    (hR : R3 w3 D vt vg vb es) (hD : D ≤ w3.heap.size) (hB : Box2 w3 H (.int .i64 (sl : Int)) (.int .i64 (gn : Int))) (hk : k < len1) (hl60 : es.length < 60)
    (hlb : lb < D) (hc0 : w3.cell? ⟨lb, lo + k * 2, none⟩ = some (.int .i64 x.1)) (hc1 : w3.cell? ⟨lb, lo + k * 2 + 1, none⟩ = some (.string x.2))
    {u0 u2 u3 u4 u5 u6 u7 u8 u14 u15 u16 u17 u18 u19 u20 u21 u22 u23 u24 u25 u26 u27 u28 u29 u30 u31 u32 u33 u34 u35 u36 u37 u38 u39 u40 u41 u42 u43 u44 u45 u46 u47 u48 u49 u50 u51 u52 u53 u54 u55 u56 u57 u58 u59 u60 u61 u62 u63 u64 u65 u66 u67 u68 u69 u70 u71 u72 u73 u74 u75 u76 u77 u78 u79 u80 u81 u82 u83 u84 u85 u86 u87 u88 u89 u90 u91 u92 u93 u94 u95 u96 u97 u98 u99 u100 u101 u102 u103 u104 u105 u106 u107 u108 u109 u110 u111 u112 u113 u114 u115 u116 u117 u118 u119 u120 u121 u122 u123 u124 u125 u126 u127 u128 u129 u130 u131 u132 u133 u134 u135 u136 u137 u138 u139 u140 u141 u142 u143 u144 u145 u146 u147 u148 u149 u150 u151 u152 u153 u154 u155 u156 u157 u158 u159 u160 u161 u162 u163 u164 u165 u166 u167 u168 u169 u170 u171 u172 u173 u174 : Value} {Q : Exit → Act → World → Prop}
    (hQ : ∀ ⦃x9 x10 x11 x65 x66 x67 x68 x69 x70 x71 x72 x73 x74 x75 x76 x77 x78 : Value⦄ ⦃wq : World⦄, R3 wq D x9 x10 x11 (es ++ [⟨sl, gn, x, false⟩]) → Below D w3 wq → Q .normal { tmps := #[u0, .slice (some ⟨lb, lo, none⟩) len1 cap1, u2, u3, u4, u5, u6, u7, u8, x9, x10, x11, .int .i64 (k : Int), .pointer (some ⟨H, 0, none⟩), u14, u15, u16, u17, u18, u19, u20, u21, u22, u23, u24, u25, u26, u27, u28, u29, u30, u31, u32, u33, u34, u35, u36, u37, u38, u39, u40, u41, u42, u43, u44, u45, u46, u47, u48, u49, u50, u51, u52, u53, u54, u55, u56, u57, u58, u59, u60, u61, u62, u63, u64, x65, x66, x67, x68, x69, x70, x71, x72, x73, x74, x75, x76, x77, x78, u79, u80, u81, u82, u83, u84, u85, u86, u87, u88, u89, u90, u91, u92, u93, u94, u95, u96, u97, u98, u99, u100, u101, u102, u103, u104, u105, u106, u107, u108, u109, u110, u111, u112, u113, u114, u115, u116, u117, u118, u119, u120, u121, u122, u123, u124, u125, u126, u127, u128, u129, u130, u131, u132, u133, u134, u135, u136, u137, u138, u139, u140, u141, u142, u143, u144, u145, u146, u147, u148, u149, u150, u151, u152, u153, u154, u155, u156, u157, u158, u159, u160, u161, u162, u163, u164, u165, u166, u167, u168, u169, u170, u171, u172, u173, u174], defers := [] } wq) :
    Code.wp Try.prog (codeOf [1, 1, 1, 1, 1, 1, 0, 1, 0, 0, 1, 0, 0, 1, 0, 1, 0, 1] (Try.f5.body.getD .skip)) Q { tmps := #[u0, .slice (some ⟨lb, lo, none⟩) len1 cap1, u2, u3, u4, u5, u6, u7, u8, vt, vg, vb, .int .i64 (k : Int), .pointer (some ⟨H, 0, none⟩), u14, u15, u16, u17, u18, u19, u20, u21, u22, u23, u24, u25, u26, u27, u28, u29, u30, u31, u32, u33, u34, u35, u36, u37, u38, u39, u40, u41, u42, u43, u44, u45, u46, u47, u48, u49, u50, u51, u52, u53, u54, u55, u56, u57, u58, u59, u60, u61, u62, u63, u64, u65, u66, u67, u68, u69, u70, u71, u72, u73, u74, u75, u76, u77, u78, u79, u80, u81, u82, u83, u84, u85, u86, u87, u88, u89, u90, u91, u92, u93, u94, u95, u96, u97, u98, u99, u100, u101, u102, u103, u104, u105, u106, u107, u108, u109, u110, u111, u112, u113, u114, u115, u116, u117, u118, u119, u120, u121, u122, u123, u124, u125, u126, u127, u128, u129, u130, u131, u132, u133, u134, u135, u136, u137, u138, u139, u140, u141, u142, u143, u144, u145, u146, u147, u148, u149, u150, u151, u152, u153, u154, u155, u156, u157, u158, u159, u160, u161, u162, u163, u164, u165, u166, u167, u168, u169, u170, u171, u172, u173, u174], defers := [] } w3 := by
  refine wp_mono (finds_push' (Q := fun e a w => e = .normal ∧ Q .normal a w) hR hD hB hk hl60 hlb hc0 hc1 (fun c a w h => by cases h.1) (fun x9 x10 x11 x65 x66 x67 x68 x69 x70 x71 x72 x73 x74 x75 x76 x77 x78 wq h1 h2 => ⟨rfl, hQ h1 h2⟩)) ?_
  rintro e a w' ⟨rfl, h⟩
  exact h
end Go.Proofs.Ytdompamilgbnnaa

/-
  The law BankPlays, walked.
-/
import Derived.Deep.CutBlock
import Derived.Test.YtnndofeomakpiaaGreatDoorBqS
import Derived.Test.YtnndofeomakpiaaGreatDoorBqO
import Derived.Test.YtnndofeomakpiaaGreatDoorBqU
namespace Go.Proofs.YtnndofeomakpiaaGreatDoor
open Go.RowKit Go.Maps

attribute [local go_sem] Oper.semAt_some

set_option maxRecDepth 100000 in
set_option maxHeartbeats 8000000 in
theorem bplays_law (a0 : Int) {now : Int} (hnw : Wd now) (a : Option Addr) (len cap : Nat) (a3 : Option Addr) (len3 cap3 : Nat) (z3 : List Int) (w : World) (hT : Mk.Tab w) (_ : len ≤ 9223372036854775807) (ha : ActsAt w a len) (hn3 : len3 = z3.length) (hlc3 : len3 ≤ cap3) (_ : cap3 ≤ 9223372036854775807) (hz3 : Mk.IntsAt w a3 z3) :
    Calls Tryz.prog 3 #[.int .i64 a0, .int .u64 now, .slice a len cap, .slice a3 len3 cap3] w fun e w' => e = .returned (.bool true) ∧ Below w.heap.size w w' := by
  have HT := Lib.hid hT
  have HA := Lib.hid ha
  have u0 : 0 ≤ IntKind.u64.wrap a0 ∧ IntKind.u64.wrap a0 < 18446744073709551616 := by rw [IntKind.wrap_u64]; omega
  generalize hg0 : IntKind.u64.wrap a0 = U0 at u0
  obtain ⟨u00, u01⟩ := u0
  obtain ⟨n, hr0, hr1, hn6⟩ : ∃ n : Nat, 1 + U0 % 6 = (n : Int) ∧ 1 ≤ n ∧ n ≤ 6 := ⟨(1 + U0 % 6).toNat, by omega⟩
  obtain ⟨zs, hzs⟩ : ∃ zs, zs = z3.take 10 := ⟨_, rfl⟩
  have hl10 : zs.length ≤ 10 := by rw [hzs, List.length_take]; omega
  have hlz : zs.length ≤ len3 := by rw [hzs, List.length_take]; omega
  have hmin : min (len3 : Int) 10 = ((zs.length : Nat) : Int) := by rw [hzs, List.length_take]; omega
  have HZ := Lib.hid (show Mk.IntsAt w a3 zs by rw [hzs]; exact ints_take hz3 10)
  have hmc : zs.length ≤ cap3 := by omega
  have hmn : decide (((zs.length : Nat) : Int) < 0) = false := decide_eq_false (by omega)
  have HN := Lib.hid (BL.newB w hr1 (Nat.le_trans hn6 (by decide)) hnw)
  have hn64 : n ≤ 64 := Nat.le_trans hn6 (by decide)
  clear hT ha hnw hz3 hzs hn3
  go_enter Tryz.func3, Tryz.ntmps3
  go_wp2_with fail
  with_reducible refine HN.out.mono ?_
  rintro e w1 ⟨K, Bs, rfl, hb⟩
  have HB := Lib.hid hb
  have HCp := Lib.hid hb.cpus
  clear hb hg0 hr0 u00 u01
  go_frame
  go_wp2_with fail
  with_reducible refine HCp.out.mono ?_
  rintro e w2 ⟨rfl, hw2⟩
  subst hw2
  have HNr := Lib.hid (rbnew_any hn64 (now := now) w2 Bs)
  go_frame
  go_wp2_with fail
  with_reducible refine HNr.out.mono ?_
  rintro e w3 ⟨m, rfl, hrb, hc3⟩
  have HP0 := Lib.hid (show BP w w3 K n (newW Bs now) m (newW Bs now) 0 0 (fun _ => .bool false) from
    ⟨HB.out.quiet hc3, (hrb.base HB.out.bel.size).mono (fun k hk _ e => by have := (HB.out.su e).2; omega), fun o ho => by omega, .inl rfl⟩)
  clear hrb hc3 hmin hmn
  go_frame
  go_wp2_with fail
  go_loopw [11, 12] (fun mv ix wr => ∃ (k A na : Nat) (c : Nat → Value) (f : Nat → Wh), k ≤ len ∧ k ≤ 60 ∧ ix = .int .i64 (k : Int) ∧ (∀ i, i < n → (f i).puts ≤ k) ∧ BP w wr K n f mv f A na c) (fun _ ix _ => 60 - (intOf ix).toNat)
  case atStart => exact ⟨0, _, _, _, _, Nat.zero_le _, Nat.zero_le _, rfl, fun i _ => Nat.zero_le _, HP0.out⟩
  case round =>
    obtain ⟨k, A, na, c, f, hk, hk6, rfl, hpk, hp⟩ := hrel
    have HP := Lib.hid hp
    have HK := Lib.hid hpk
    clear hp hpk HP0
    by_cases hlt : k < len ∧ k < 60
    · obtain ⟨hlt, h60⟩ := hlt
      rcases HA.out with h0 | ⟨b, off, rfl, hacts⟩
      · exfalso; omega
      obtain ⟨C, Kd, id, x, hc0, hc1, hc2, hc3, hwf, hwd⟩ := hacts k hlt
      have hbs : b < w.heap.size := cell_lt hc0
      have HP3 := Lib.hid (HP.out.newAct (.int .i64 Kd) (.int .i64 id) (.int .u64 x) 33)
      have hd0 := (HP3.out.bl.bel.cell (p := ⟨b, off + k * 4, none⟩) hbs).trans hc0
      have hc0 := (HP.out.bl.bel.cell (p := ⟨b, off + k * 4, none⟩) hbs).trans hc0
      have hc1 := (HP.out.bl.bel.cell (p := ⟨b, off + k * 4 + 1, none⟩) hbs).trans hc1
      have hc2 := (HP.out.bl.bel.cell (p := ⟨b, off + k * 4 + 2, none⟩) hbs).trans hc2
      have hc3 := (HP.out.bl.bel.cell (p := ⟨b, off + k * 4 + 3, none⟩) hbs).trans hc3
      have hc2' : wr.cell? ⟨b, off + k * 4 + 1 + 1, none⟩ = some (.int .i64 id) := hc2
      have hc3' : wr.cell? ⟨b, off + k * 4 + 1 + 2, none⟩ = some (.int .u64 x) := hc3
      have HWf := Lib.hid hwf
      have HWd := Lib.hid hwd
      have ht1 : decide ((k : Int) < 60) = true := by simp; omega
      have ht2 : (k : Int) < (len : Int) := by omega
      clear hacts hbs hwf hwd
      have hU : 0 ≤ IntKind.u64.wrap Kd ∧ IntKind.u64.wrap Kd < 18446744073709551616 := by rw [IntKind.wrap_u64]; omega
      generalize hgU : IntKind.u64.wrap Kd = U at hU
      obtain ⟨hU0, hU1⟩ := hU
      have HU0 := Lib.hid hU0
      go_upto_block 2 with (fail)
      refine bplays_sw HT.out HP3.out rfl rfl HWd.out HWf.out (fun i hi => by have := HK.out i hi; omega) HU0.out ?_
      intro x8 x11 x15 x16 x17 x18 x19 x20 x21 x22 x23 x24 x94 x95 x96 x97 x98 x99 x100 x101 x102 x103 x104 x105 x106 x107 x108 x109 x110 x111 x112 x113 x114 x115 x116 x117 x118 x119 x120 x121 x122 x123 x124 x125 x126 x127 x128 x129 x130 x131 x132 x133 x134 x135 x136 x137 x138 x139 x140 x141 x142 x143 x144 x145 x146 x147 x148 x149 x150 x151 x152 x153 x154 x155 x156 x157 x158 x159 x160 x161 x162 x163 x164 x165 x166 x167 x168 x169 x170 x171 x172 x173 wq ⟨f', hp4, hpl⟩ hs4
      have HP4 := Lib.hid hp4
      have HK4 := Lib.hid hpl
      clear hp4 hpl hs4
      simp only [Exit.then]
      refine go_on (by assumption) ?_
      refine bplays_tail HT.out HP4.out rfl rfl HWd.out HWf.out (fun i hi => by have := HK.out i hi; have := HK4.out i hi; omega) HZ.out hl10 hn6 ?_
      intro y8 y25 y26 y27 y28 y29 y30 y31 y32 y33 y34 y35 y36 y37 y38 y39 y40 y41 y42 y43 y174 y175 y176 y177 y178 y179 y180 y181 y182 y183 y184 y185 y186 y187 y188 y189 y190 y191 y192 y193 y194 y195 y196 y197 y198 y199 y200 y201 y202 y203 y204 y205 y206 y207 y208 y209 y210 y211 y212 y213 y214 y215 y216 y217 y218 y219 y220 y221 y222 y223 y224 y225 y226 y227 y228 y229 y230 y231 y232 y233 y234 y235 y236 y237 y238 y239 y240 y241 y242 y243 y244 y245 y246 y247 y248 y249 y250 y251 y252 y253 y254 y255 y256 y257 y258 y259 y260 y261 y262 y263 y264 y265 y266 y267 y268 y269 y270 y271 y272 y273 y274 y275 y276 y277 y278 y279 y280 y281 y282 y283 y284 y285 y286 y287 y288 y289 y290 y291 y292 y293 y294 y295 y296 y297 y298 y299 y300 y301 y302 y303 y304 y305 y306 y307 y308 y309 y310 y311 y312 y313 y314 y315 y316 y317 y318 y319 y320 y321 y322 y323 y324 y325 y326 y327 y328 y329 y330 y331 y332 y333 y334 y335 y336 y337 y338 y339 y340 y341 y342 y343 y344 y345 y346 y347 y348 y349 y350 y351 y352 y353 w5 hp5 hs5
      have HP5 := Lib.hid hp5
      clear hp5 hs5
      go_wp2_with fail
      go_roundw
      case rel => exact ⟨k + 1, _, _, _, _, by omega, by omega, by go_num, fun i hi => by have := HK.out i hi; have := HK4.out i hi; omega, HP5.out⟩
      case measure => simp [intOf]; omega
    · have hcs : (k < len ∧ ¬ k < 60) ∨ k = len := by omega
      have HKn := Lib.hid (known_any _ (HP.out.bl.tab HT.out))
      rcases hcs with ⟨h1, h2⟩ | h1
      · have hd : decide ((k : Int) < 60) = false := by simp; omega
        have hdl : (k : Int) < (len : Int) := by omega
        go_wp2_with fail
        with_reducible refine HKn.out.mono ?_
        rintro e w3 ⟨rfl, hb3⟩
        have HBl := Lib.hid (HP.out.quiet (Ch.of_below hb3)).bl.bel
        clear hb3
        go_wp2
        go_ret
        exact ⟨rfl, HBl.out⟩
      · have hdl : decide ((k : Int) < (len : Int)) = false := by simp; omega
        go_wp2_with fail
        with_reducible refine HKn.out.mono ?_
        rintro e w3 ⟨rfl, hb3⟩
        have HBl := Lib.hid (HP.out.quiet (Ch.of_below hb3)).bl.bel
        clear hb3
        go_wp2
        go_ret
        exact ⟨rfl, HBl.out⟩
end Go.Proofs.YtnndofeomakpiaaGreatDoor

/- TurnOrbits: all ways to lay a matrix that are not the same, and which is of which turn, are the document's: the walk of the law. No condition. -/
import Derived.Test.YteonfgphihacgaaTurOC
import Derived.Test.YteonfgphihacgaaSamI
import Derived.Test.YteonfgphihacgaaRecU
import Derived.Deep.DeepCutAuto
namespace Go.Proofs.Yteonfgphihacgaa
open Go.RowKit
set_option linter.unusedVariables false

/-- what a row of rows holds at one of its two places -/
theorem two_rows {w : World} {u v : Value} (t : TypeId) {i : Nat} (hi : i < 2) : (w.alloc (.cells #[u, v] t)).cell? ⟨w.heap.size, i, none⟩ = some (if i = 0 then u else v) := by
  rcases (by omega : i = 0 ∨ i = 1) with rfl | rfl <;> simp [go_sem]
/-- both rounds: what each of the two lists of turns comes to -/
def Lists (V : World) (tb : Nat) : Prop := ∀ i, i < 2 → ∃ (A : Option Addr) (len cp : Nat) (ts : List Int), V.cell? ⟨tb, i, none⟩ = some (.slice A len cp) ∧ len ≤ 9 ∧ SlK .i64 V A len ts
theorem orb_ks_len (W H : Nat) (L : List Int) : ∀ (ts : List Int) (s : List (Nat × Nat × List Int) × List Int), (ts.foldl (fun s t => ((Tu.stepO W H L s.1 t).1, s.2 ++ [(Tu.stepO W H L s.1 t).2])) s).1.length ≤ s.1.length + ts.length
  | [], s => by simp
  | t :: ts, s => by
    have h := orb_ks_len W H L ts ((Tu.stepO W H L s.1 t).1, s.2 ++ [(Tu.stepO W H L s.1 t).2])
    have h1 : (Tu.stepO W H L s.1 t).1.length ≤ s.1.length + 1 := by
      unfold Tu.stepO
      split
      · exact Tu.addK_len _ _
      · exact Nat.le_succ _
    rw [List.foldl_cons, List.length_cons]
    simp only at h
    omega
theorem key_eq {es : List Ent} {fs : List Fnt} (h : es.map Ent.key = fs.map Fnt.key) {k : Nat} {e : Ent} {f : Fnt} (he : es[k]? = some e) (hf : fs[k]? = some f) : e.1 = f.1 ∧ e.2.1 = f.2.1 ∧ e.2.2.2 = f.2.2.2.2 := by
  have h1 : (es.map Ent.key)[k]? = some (Ent.key e) := by rw [List.getElem?_map, he]; rfl
  have h2 : (fs.map Fnt.key)[k]? = some (Fnt.key f) := by rw [List.getElem?_map, hf]; rfl
  rw [h, h2] at h1
  injection h1 with h1
  unfold Ent.key Fnt.key at h1
  injection h1 with a b
  injection b with b c
  exact ⟨a.symm, b.symm, c.symm⟩
set_option maxRecDepth 100000 in
set_option maxHeartbeats 16000000 in
theorem turnOrbits_walk (a0w0 : Int) (a0h1 : Int) (a0 : Option Addr) (len0 cap0 : Nat) (z0 : List Int) (a1 : Option Addr) (len1 cap1 : Nat) (z1 : List Int) (w : World) (w00 : (Lit.int .i64 a0w0).wf = true) (w01 : (Lit.int .i64 a0h1).wf = true) (w02 : IsRow .u64 w a0 len0 cap0 z0) (w1 : IsRow .i64 w a1 len1 cap1 z1) :
    Calls Try.prog 11 #[.agg #[.int .i64 a0w0, .int .i64 a0h1, .slice a0 len0 cap0], .slice a1 len1 cap1] w fun e w' => e = .returned (.bool true) ∧ Below w.heap.size w w' := by
  obtain ⟨W, H, n, L, hmk, hn, -, hGood⟩ := good_n 4 a0w0 a0h1 a0 len0 cap0 (z0.take len0) (wfI w00) (wfI w01) (by omega) (by omega) (isrow_len w02).1 w (px_take w02 len0) (row_slk w02)
  have hn64 : n ≤ 64 := hn ▸ mk_n hmk (by decide)
  have HLn := Lib.hid (show L.length = n from hmk.2.2.2.2.trans hn)
  have HGD := Lib.hid hGood
  have B := box1 w (.cells #[.int .i64 a0w0, .int .i64 a0h1, .slice a0 len0 cap0] 53)
  obtain ⟨l1, l2, l3, l4⟩ := isrow_len w1
  obtain ⟨m, hmm⟩ : ∃ m, ((len1 ≤ 9 ∧ m = len1) ∨ (9 < len1 ∧ m = 9)) := ⟨min len1 9, by omega⟩
  have hm1 : m ≤ len1 := by omega
  have hm9 : m ≤ 9 := by omega
  have S1 := Lib.hid (isrow_takeK w1 m hm1)
  generalize z1.take m = zs at S1
  have hnil : a1 = none → len1 = 0 ∧ cap1 = 0 := fun h => by
    rcases w1 with ⟨_, h1, h2, _⟩ | ⟨x, hx, _⟩
    · exact ⟨h1, h2⟩
    · rw [h] at hx; cases hx
  have HMK := Lib.hid hmk
  have HN := Lib.hid hn
  clear hGood w00 w01 w02 w1 hmk hn
  go_enter Try.func11, Try.ntmps11
  go_wp2_with fail
  refine (HGD.out _ B).mono ?_
  rintro e w1 ⟨ga, gc, rfl, oo, hc1, hc2, hb1⟩
  replace B := bel_step B hb1
  have hb := box1 w1 (.cells #[.int .i64 W, .int .i64 H, .slice ga n gc] 53)
  replace B := bel_step B hb
  have FX := Sb.new w1 53 (.int .i64 W) (.int .i64 H) (.slice ga n gc)
  have SX : SlK .u64 (w1.alloc (.cells #[.int .i64 W, .int .i64 H, .slice ga n gc] 53)) ga n L := by have := (oo.later hb).sl; rwa [HLn.out] at this
  obtain ⟨V1, hV1⟩ : ∃ V, w1.alloc (.cells #[.int .i64 W, .int .i64 H, .slice ga n gc] 53) = V := ⟨_, rfl⟩
  rw [hV1] at B FX SX
  obtain ⟨xb, hxb⟩ : ∃ xb, w1.heap.size = xb := ⟨_, rfl⟩
  rw [hxb] at FX
  have hV1' := Lib.hid hV1
  clear oo hb hb1 hV1
  have HS1 := Lib.hid (S1.out.below B)
  have B2 := box1 V1 (.cells #[.int .i64 0, .int .i64 1, .int .i64 2, .int .i64 3, .int .i64 4, .int .i64 5, .int .i64 6, .int .i64 7] 3)
  have S8 := Lib.hid (ownK_lit (q := .i64) V1 #[.int .i64 0, .int .i64 1, .int .i64 2, .int .i64 3, .int .i64 4, .int .i64 5, .int .i64 6, .int .i64 7] 3 [0, 1, 2, 3, 4, 5, 6, 7] rfl)
  have hzV : V1.heap.size = xb + 1 := by rw [← hV1'.out]; simp [hxb]
  have FIN : Hid (∀ (k : Nat), k ≤ 9 → SlK .i64 w a1 k zs → ∃ tb, Value.slice (some ⟨xb + 1 + 1, 0, none⟩) 2 2 = .slice (some ⟨tb, 0, none⟩) 2 2 ∧ Lists ((V1.alloc (.cells #[.int .i64 0, .int .i64 1, .int .i64 2, .int .i64 3, .int .i64 4, .int .i64 5, .int .i64 6, .int .i64 7] 3)).alloc (.cells #[.slice a1 k cap1, .slice (some ⟨xb + 1, 0, none⟩) 8 8] 40)) tb ∧ Below V1.heap.size V1 ((V1.alloc (.cells #[.int .i64 0, .int .i64 1, .int .i64 2, .int .i64 3, .int .i64 4, .int .i64 5, .int .i64 6, .int .i64 7] 3)).alloc (.cells #[.slice a1 k cap1, .slice (some ⟨xb + 1, 0, none⟩) 8 8] 40))) := fun k hk9 hsk => by
    obtain ⟨V2, hV2⟩ : ∃ V2, V1.alloc (.cells #[.int .i64 0, .int .i64 1, .int .i64 2, .int .i64 3, .int .i64 4, .int .i64 5, .int .i64 6, .int .i64 7] 3) = V2 := ⟨_, rfl⟩
    have hz2 : V2.heap.size = xb + 1 + 1 := by rw [← hV2]; simp [hzV]
    have S8' := S8.out.sl
    rw [hV2, hzV] at S8'
    rw [hV2] at B2 ⊢
    refine ⟨_, rfl, fun i hi2 => ?_, B2.trans ((box1 V2 _).mono B2.size)⟩
    have hc := two_rows (w := V2) (u := .slice a1 k cap1) (v := .slice (some ⟨xb + 1, 0, none⟩) 8 8) 40 hi2
    rw [hz2] at hc
    rcases (by omega : i = 0 ∨ i = 1) with rfl | rfl
    · exact ⟨a1, k, cap1, zs, hc, hk9, ((hsk.below B).below B2).below (box1 V2 _)⟩
    · exact ⟨_, 8, 8, [0, 1, 2, 3, 4, 5, 6, 7], hc, by omega, S8'.below (box1 V2 _)⟩
  clear B2 S8
  go_upto_region 2 with (fail)
  go_cut [6] (fun s6 wx => ∃ tb, s6 = .slice (some ⟨tb, 0, none⟩) 2 2 ∧ Lists wx tb ∧ Below V1.heap.size V1 wx)
  case first =>
    rcases hmm with ⟨hlo, rfl⟩ | ⟨hlo, rfl⟩
    · have kd : decide (9 < (m : Int)) = false := by simp; omega
      have kd2 : decide ((m : Int) ≤ 9) = true := by simp; omega
      have kd3 : (m : Int) ≤ 9 := by omega
      have kd4 : decide ((m : Int) < 9) = decide (m < 9) := by rw [decide_eq_decide]; omega
      clear hlo
      go_wp2
      go_meet
      case rel =>
        rw [hV1'.out]
        exact FIN.out m hm9 S1.out
    · have kd : decide (9 < (len1 : Int)) = true := by simp; omega
      have kd2 : decide ((len1 : Int) ≤ 9) = false := by simp; omega
      have kd3 : ¬ (len1 : Int) ≤ 9 := by omega
      have kd4 : decide ((len1 : Int) < 9) = false := by simp; omega
      have kd5 : (9 : Int) ≤ (cap1 : Int) := by omega
      clear hlo
      go_wp2
      go_meet
      case rel =>
        rw [hV1'.out]
        exact FIN.out 9 hm9 S1.out
  case rest =>
    obtain ⟨tb, rfl, hLi, hBx⟩ := hcut
    have HLI := Lib.hid hLi
    have HBw := Lib.hid (B.trans (hBx.mono B.size))
    have FX2 := FX.later hBx
    have HSX0 := Lib.hid (SX.below hBx)
    have HFX0 := Lib.hid FX2
    clear hBx hLi FX SX FX2 B
    go_wp2_with fail
    go_loopw [7] (fun u7 wr => ∃ i : Nat, i ≤ 2 ∧ u7 = .int .i64 i ∧ Below wc.heap.size wc wr) (fun u7 _ => 2 - (intOf u7).toNat)
    case atStart => exact ⟨0, by omega, rfl, .refl _ _⟩
    case round =>
      obtain ⟨i, hi2, rfl, hB⟩ := hrel
      have HB := Lib.hid hB
      clear hB
      by_cases hlt : i < 2
      · have hi0 : (0 : Int) ≤ (i : Int) := by omega
        have hiI : (i : Int) < 2 := by omega
        obtain ⟨A, len, cp, ts, hcv0, hlen, hts⟩ := HLI.out i hlt
        have hcv := cell_later HB.out hcv0
        have HTS := Lib.hid (hts.below HB.out)
        have HSX := Lib.hid (HSX0.out.below HB.out)
        obtain ⟨x0, x1, x2⟩ := (HFX0.out.later HB.out).cells
        have HORB : Hid (∀ W', SlK .u64 W' ga n L → SlK .i64 W' A len ts → Calls Try.prog 54 #[.agg #[.int .i64 W, .int .i64 H, .slice ga n gc], .slice A len cp] W' (OrbA W H n len L ts W')) := fun W' h1 h2 => orbit_any W H n len ga A gc cp L ts (mk_ok HMK.out (by decide)) HN.out hc1 hc2 hlen W' h1 h2
        have HROR : Hid (∀ W', SlK .u64 W' ga n L → SlK .i64 W' A len ts → Calls Try.prog 56 #[.agg #[.int .i64 W, .int .i64 H, .slice ga n gc], .slice A len cp] W' (OrbB W H n L ts W')) := fun W' h1 h2 => refOrbit_any HMK.out (by decide) HN.out len ga A gc cp ts hc1 hc2 hlen W' h1 h2
        have hOl : Hid ((Tu.orbO W H L ts).2.length = len) := by show _ = _; rw [orb_len, hts.1]
        obtain ⟨ks, hks⟩ : ∃ ks, (Tu.orbO W H L ts).1 = ks := ⟨_, rfl⟩
        obtain ⟨pl, hpl⟩ : ∃ pl, (Tu.orbO W H L ts).2 = pl := ⟨_, rfl⟩
        have HKS := Lib.hid hks
        have HPL := Lib.hid hpl
        have hBt : Below wr.heap.size wr wr := .refl _ _
        have HLE := Lib.hid hlen
        have HK9 : Hid (ks.length ≤ 9) := by
          show _ ≤ _
          have h := orb_ks_len W H L ts ([], [])
          rw [← hks]
          unfold Tu.orbO
          simp only [List.length_nil, Nat.zero_add] at h
          have := hts.1
          omega
        clear hcv0 hts hlen hks hpl
        go_wp2_with fail
        go_cut [8, 9] (fun s8 s9 wx => ∃ (v : Value) (es : List Ent) (P : Option Addr) (pc base : Nat), s8 = v ∧ s9 = .slice P len pc ∧ es.map Ent.key = ks ∧ wx.ownsRow base 54 3 v es.length (ents n es) ∧ Lie n wx es ∧ SlK .i64 wx P len pl ∧ Below wr.heap.size wr wx)
        case first =>
          go_region_held3 (fun w' => w'.cell? ⟨xb, 0, none⟩ = some (.int .i64 W) ∧ w'.cell? ⟨xb, 1, none⟩ = some (.int .i64 H) ∧ w'.cell? ⟨xb, 2, none⟩ = some (.slice ga n gc) ∧ w'.cell? ⟨tb, i, none⟩ = some (.slice A len cp))
            (first | exact ⟨x0, x1, x2, hcv⟩ | exact ⟨cell_later (by repeat' (first | (with_reducible exact hBt) | (with_reducible refine Below.alloc ?_ ?_ _) | (with_reducible refine Below.drew ?_) | (with_reducible refine below_drewN ?_ _) | (with_reducible refine Below.setCell ?_ ?_ _) | exact hBt.size | (have := hBt.size; first | omega | (simp; done) | (simp; omega)))) x0, cell_later (by repeat' (first | (with_reducible exact hBt) | (with_reducible refine Below.alloc ?_ ?_ _) | (with_reducible refine Below.drew ?_) | (with_reducible refine below_drewN ?_ _) | (with_reducible refine Below.setCell ?_ ?_ _) | exact hBt.size | (have := hBt.size; first | omega | (simp; done) | (simp; omega)))) x1, cell_later (by repeat' (first | (with_reducible exact hBt) | (with_reducible refine Below.alloc ?_ ?_ _) | (with_reducible refine Below.drew ?_) | (with_reducible refine below_drewN ?_ _) | (with_reducible refine Below.setCell ?_ ?_ _) | exact hBt.size | (have := hBt.size; first | omega | (simp; done) | (simp; omega)))) x2, cell_later (by repeat' (first | (with_reducible exact hBt) | (with_reducible refine Below.alloc ?_ ?_ _) | (with_reducible refine Below.drew ?_) | (with_reducible refine below_drewN ?_ _) | (with_reducible refine Below.setCell ?_ ?_ _) | exact hBt.size | (have := hBt.size; first | omega | (simp; done) | (simp; omega)))) hcv⟩)
            (first
              | (go_at_call 55; refine (of4_any _ _ _ _ _ _).mono ?_; rintro e w9 ⟨rfl, hb9⟩; replace hBt := bel_step (w := wr) (by repeat' (first | (with_reducible exact hBt) | (with_reducible refine Below.alloc ?_ ?_ _) | (with_reducible refine Below.drew ?_) | (with_reducible refine below_drewN ?_ _) | (with_reducible refine Below.setCell ?_ ?_ _) | exact hBt.size | (have := hBt.size; first | omega | (simp; done) | (simp; omega)))) hb9; have hsz9 := hBt.size)
              | (go_at_call 54; refine (HORB.out _ (HSX.out.below (by repeat' (first | (with_reducible exact hBt) | (with_reducible refine Below.alloc ?_ ?_ _) | (with_reducible refine Below.drew ?_) | (with_reducible refine below_drewN ?_ _) | (with_reducible refine Below.setCell ?_ ?_ _) | exact hBt.size | (have := hBt.size; first | omega | (simp; done) | (simp; omega))))) (HTS.out.below (by repeat' (first | (with_reducible exact hBt) | (with_reducible refine Below.alloc ?_ ?_ _) | (with_reducible refine Below.drew ?_) | (with_reducible refine below_drewN ?_ _) | (with_reducible refine Below.setCell ?_ ?_ _) | exact hBt.size | (have := hBt.size; first | omega | (simp; done) | (simp; omega)))))).mono ?_; rintro e w9 ⟨v, es, P, pc, base, rfl, hk, hr, hlie, hsl, hb9⟩; replace hBt := bel_step (w := wr) (by repeat' (first | (with_reducible exact hBt) | (with_reducible refine Below.alloc ?_ ?_ _) | (with_reducible refine Below.drew ?_) | (with_reducible refine below_drewN ?_ _) | (with_reducible refine Below.setCell ?_ ?_ _) | exact hBt.size | (have := hBt.size; first | omega | (simp; done) | (simp; omega)))) hb9; have hsz9 := hBt.size))
          all_goals
            go_wp2_with fail
            go_meet
            case rel => exact ⟨v, es, P, pc, base, rfl, rfl, by rw [← HKS.out]; exact hk, hr, hlie, by rw [← HPL.out]; exact hsl, hBt⟩
        case rest =>
          obtain ⟨v, es, P, pc, base, rfl, rfl, hk, hr, hlie, hsl, hBx⟩ := hcut
          have HK := Lib.hid hk
          have HR := Lib.hid hr
          have HLIE := Lib.hid hlie
          have HSL := Lib.hid hsl
          have HBc := Lib.hid (HB.out.trans (hBx.mono HB.out.size))
          have HTS2 := Lib.hid (HTS.out.below hBx)
          have HSX2 := Lib.hid (HSX.out.below hBx)
          have hcv2 := cell_later hBx hcv
          have x02 := cell_later hBx x0
          have x12 := cell_later hBx x1
          have x22 := cell_later hBx x2
          clear hk hr hlie hsl hBx hBt hcv x0 x1 x2
          obtain ⟨wd, hwd⟩ : ∃ wd : World, wd = wc := ⟨_, rfl⟩
          subst hwd
          have hBt : Below wd.heap.size wd wd := .refl _ _
          go_wp2_with fail
          go_cut [10, 11] (fun s10 s11 wx => ∃ (v2 : Value) (fs : List Fnt) (Q : Option Addr) (qc base2 : Nat), s10 = v2 ∧ s11 = .slice Q len qc ∧ fs.map Fnt.key = ks ∧ wx.ownsRow base2 53 3 v2 fs.length (fnts n fs) ∧ Fie n base2 wx fs ∧ SlK .i64 wx Q len pl ∧ Below wd.heap.size wd wx)
          case first =>
            go_region_held3 (fun w' => w'.cell? ⟨xb, 0, none⟩ = some (.int .i64 W) ∧ w'.cell? ⟨xb, 1, none⟩ = some (.int .i64 H) ∧ w'.cell? ⟨xb, 2, none⟩ = some (.slice ga n gc) ∧ w'.cell? ⟨tb, i, none⟩ = some (.slice A len cp))
              (first | exact ⟨x02, x12, x22, hcv2⟩ | exact ⟨cell_later (by repeat' (first | (with_reducible exact hBt) | (with_reducible refine Below.alloc ?_ ?_ _) | (with_reducible refine Below.drew ?_) | (with_reducible refine below_drewN ?_ _) | (with_reducible refine Below.setCell ?_ ?_ _) | exact hBt.size | (have := hBt.size; first | omega | (simp; done) | (simp; omega)))) x02, cell_later (by repeat' (first | (with_reducible exact hBt) | (with_reducible refine Below.alloc ?_ ?_ _) | (with_reducible refine Below.drew ?_) | (with_reducible refine below_drewN ?_ _) | (with_reducible refine Below.setCell ?_ ?_ _) | exact hBt.size | (have := hBt.size; first | omega | (simp; done) | (simp; omega)))) x12, cell_later (by repeat' (first | (with_reducible exact hBt) | (with_reducible refine Below.alloc ?_ ?_ _) | (with_reducible refine Below.drew ?_) | (with_reducible refine below_drewN ?_ _) | (with_reducible refine Below.setCell ?_ ?_ _) | exact hBt.size | (have := hBt.size; first | omega | (simp; done) | (simp; omega)))) x22, cell_later (by repeat' (first | (with_reducible exact hBt) | (with_reducible refine Below.alloc ?_ ?_ _) | (with_reducible refine Below.drew ?_) | (with_reducible refine below_drewN ?_ _) | (with_reducible refine Below.setCell ?_ ?_ _) | exact hBt.size | (have := hBt.size; first | omega | (simp; done) | (simp; omega)))) hcv2⟩)
              (first
                | (go_at_call 56; refine (HROR.out _ (HSX2.out.below (by repeat' (first | (with_reducible exact hBt) | (with_reducible refine Below.alloc ?_ ?_ _) | (with_reducible refine Below.drew ?_) | (with_reducible refine below_drewN ?_ _) | (with_reducible refine Below.setCell ?_ ?_ _) | exact hBt.size | (have := hBt.size; first | omega | (simp; done) | (simp; omega))))) (HTS2.out.below (by repeat' (first | (with_reducible exact hBt) | (with_reducible refine Below.alloc ?_ ?_ _) | (with_reducible refine Below.drew ?_) | (with_reducible refine below_drewN ?_ _) | (with_reducible refine Below.setCell ?_ ?_ _) | exact hBt.size | (have := hBt.size; first | omega | (simp; done) | (simp; omega)))))).mono ?_; rintro e w9 ⟨v2, fs, Q, qc, base2, rfl, hk2, hr2, hfie, hsl2, hb9⟩; replace hBt := bel_step (w := wd) (by repeat' (first | (with_reducible exact hBt) | (with_reducible refine Below.alloc ?_ ?_ _) | (with_reducible refine Below.drew ?_) | (with_reducible refine below_drewN ?_ _) | (with_reducible refine Below.setCell ?_ ?_ _) | exact hBt.size | (have := hBt.size; first | omega | (simp; done) | (simp; omega)))) hb9; have hsz9 := hBt.size))
            all_goals
              go_wp2_with fail
              go_meet
              case rel => exact ⟨v2, fs, Q, qc, base2, rfl, by rw [hOl.out], by rw [← HKS.out]; exact hk2, hr2, hfie, by rw [hOl.out, HPL.out] at hsl2; exact hsl2, hBt⟩
          case rest =>
            obtain ⟨v2, fs, Q, qc, base2, rfl, rfl, hk2, hr2, hfie, hsl2, hBx⟩ := hcut
            have HBe := Lib.hid (HBc.out.trans (hBx.mono HBc.out.size))
            have hlen2 : fs.length = es.length := by have h1 := congrArg List.length HK.out; have h2 := congrArg List.length hk2; rw [List.length_map] at h1 h2; omega
            have HKF := Lib.hid (HK.out.trans hk2.symm)
            have hr2' := hr2
            rw [hlen2] at hr2'
            have HR1 := Lib.hid (ownsRow_later HR.out hBx)
            have HR2 := Lib.hid hr2'
            have HLI1 := Lib.hid (HLIE.out.later hBx)
            have HFI1 := Lib.hid hfie
            have HP1 := Lib.hid (HSL.out.below hBx)
            have HQ1 := Lib.hid hsl2
            have HL2 := Lib.hid hlen2
            obtain ⟨va, vc, hv⟩ := ownsRow_val HR1.out
            obtain ⟨vb, vd, hv2⟩ := ownsRow_val HR2.out
            subst hv hv2
            have hes9 : es.length ≤ 9 := by have h1 := congrArg List.length HK.out; rw [List.length_map] at h1; have := HK9.out; omega
            have HLE2 : Hid (len ≤ 9223372036854775807) := Nat.le_trans HLE.out (by omega)
            clear hk2 hr2 hr2' hfie hsl2 hBx hBt hlen2 hcv2 x02 x12 x22
            have hne : ((es.length : Int) != (es.length : Int)) = false := by simp
            go_wp2_with fail
            refine (Sm.same_self _ _ _ _ _ _ pl _ HLE2.out HP1.out HQ1.out).mono ?_
            rintro e w4 ⟨rfl, hb4⟩
            have HBf := Lib.hid (HBe.out.trans (hb4.mono HBe.out.size))
            have HR1b := Lib.hid (ownsRow_later HR1.out hb4)
            have HR2b := Lib.hid (ownsRow_later HR2.out hb4)
            have HLI2 := Lib.hid (HLI1.out.later hb4)
            have HFI2 := Lib.hid (HFI1.out.later hb4)
            clear hb4
            go_wp2_with fail
            rcases Nat.eq_zero_or_pos es.length with h0 | h0
            · have hI0 : ¬ (0 : Int) < (es.length : Int) := by omega
              go_wp2
              refine wp_loop_rounds 1 ?_
              rw [rounds_succ]
              go_wp2
              go_roundw
              case rel => exact ⟨i + 1, by omega, by go_num, HBf.out⟩
              case measure => simp [intOf]; omega
            obtain ⟨g0, cp0, hv⟩ := ownsRow_pos HR1b.out h0
            injection hv with hv1 hv2 hv3
            subst hv1
            subst hv3
            obtain ⟨g2, cp2, hw⟩ := ownsRow_pos HR2b.out h0
            injection hw with hw1 hw2 hw3
            subst hw1
            subst hw3
            clear hv2 hw2
            go_loopw [12] (fun u12 wy => ∃ k : Nat, k ≤ es.length ∧ u12 = .int .i64 k ∧ Below w4.heap.size w4 wy) (fun u12 _ => es.length - (intOf u12).toNat)
            case atStart => exact ⟨0, Nat.zero_le _, rfl, .refl _ _⟩
            case round =>
              obtain ⟨k, hk, rfl, hBy⟩ := hrel
              have HBy := Lib.hid hBy
              by_cases hkl : k < es.length
              · have hk0 : (0 : Int) ≤ (k : Int) := by omega
                have hkI : (k : Int) < (es.length : Int) := by omega
                have hkf : k < fs.length := by rw [HL2.out]; exact hkl
                have he : es[k]? = some es[k] := List.getElem?_eq_getElem hkl
                have hf : fs[k]? = some fs[k] := List.getElem?_eq_getElem hkf
                obtain ⟨e1, e2, e3⟩ := key_eq HKF.out he hf
                obtain ⟨q0, q1, q2⟩ := ents_get n es k _ he
                obtain ⟨r0, r1, r2⟩ := fnts_get n fs k _ hf
                have hse := HLI2.out _ (List.getElem_mem hkl)
                have hsf := HFI2.out _ (List.getElem_mem hkf)
                have hr1 := HR1b.out
                have hr2 := HR2b.out
                have el := ents_len n es
                have fl := fnts_len n fs
                have z0 : w4.cell? ⟨g0, k * 3, none⟩ = some (.int .i64 (es[k].1 : Nat)) := by rw [hr1.cellAt _ (by omega), q0]
                have z1 : w4.cell? ⟨g0, k * 3 + 1, none⟩ = some (.int .i64 (es[k].2.1 : Nat)) := by rw [hr1.cellAt _ (by omega), q1]
                have z2 : w4.cell? ⟨g0, k * 3 + 2, none⟩ = some (.slice (some ⟨es[k].2.2.1, 0, none⟩) n n) := by rw [hr1.cellAt _ (by omega), q2]
                have z3 : w4.cell? ⟨g2, k * 3, none⟩ = some (.int .i64 (fs[k].1 : Nat)) := by rw [hr2.cellAt _ (by omega), r0]
                have z4 : w4.cell? ⟨g2, k * 3 + 1, none⟩ = some (.int .i64 (fs[k].2.1 : Nat)) := by rw [hr2.cellAt _ (by omega), r1]
                have z5 : w4.cell? ⟨g2, k * 3 + 2, none⟩ = some (.slice fs[k].2.2.1 n fs[k].2.2.2.1) := by rw [hr2.cellAt _ (by omega), r2]
                rw [← e1] at z3
                rw [← e2] at z4
                obtain ⟨P1, hP1⟩ : ∃ p : Nat, es[k].1 = p := ⟨_, rfl⟩
                obtain ⟨P2, hP2⟩ : ∃ p : Nat, es[k].2.1 = p := ⟨_, rfl⟩
                obtain ⟨eg, hEg⟩ : ∃ p : Nat, es[k].2.2.1 = p := ⟨_, rfl⟩
                obtain ⟨T, hT⟩ : ∃ p : List Int, es[k].2.2.2 = p := ⟨_, rfl⟩
                obtain ⟨fa, hFa⟩ : ∃ p : Option Addr, fs[k].2.2.1 = p := ⟨_, rfl⟩
                obtain ⟨fc, hFc⟩ : ∃ p : Nat, fs[k].2.2.2.1 = p := ⟨_, rfl⟩
                rw [hP1] at z0 z3
                rw [hP2] at z1 z4
                rw [hEg] at z2
                rw [hFa, hFc] at z5
                rw [hEg, hT] at hse
                rw [← e3, hT, hFa] at hsf
                have HSE := Lib.hid ((ownG_len hse.1 hse.2).below hBy)
                have HSF := Lib.hid (hsf.1.below hBy)
                have y0 := cell_later hBy z0
                have y1 := cell_later hBy z1
                have y2 := cell_later hBy z2
                have y3 := cell_later hBy z3
                have y4 := cell_later hBy z4
                have y5 := cell_later hBy z5
                have HSM : Hid (∀ W', SlK .u64 W' (some ⟨eg, 0, none⟩) n T → SlK .u64 W' fa n T → Calls Try.prog 35 #[.agg #[.int .i64 (P1 : Nat), .int .i64 (P2 : Nat), .slice (some ⟨eg, 0, none⟩) n n], .agg #[.int .i64 (P1 : Nat), .int .i64 (P2 : Nat), .slice fa n fc]] W' fun e w' => e = .returned (.bool true) ∧ Below W'.heap.size W' w') := fun W' h1 h2 => (refSame_any P1 P2 P1 P2 (some ⟨eg, 0, none⟩) fa n n n fc T T W' (by omega) h1 h2).mono fun e w' hh => ⟨by rw [hh.1]; simp, hh.2⟩
                have hBt : Below wr.heap.size wr wr := .refl _ _
                clear z0 z1 z2 z3 z4 z5 q0 q1 q2 r0 r1 r2 e1 e2 e3 he hf hse hsf hr1 hr2 el fl hP1 hP2 hEg hT hFa hFc hBy
                have j1 : IntKind.i64.wrap ((k : Int) * 3) = (k : Int) * 3 := by rw [IntWalk.i64_in] <;> omega
                go_wp2_with fail
                go_region_held3 (fun w' => w'.cell? ⟨g0, k * 3, none⟩ = some (.int .i64 (P1 : Nat)) ∧ w'.cell? ⟨g0, k * 3 + 1, none⟩ = some (.int .i64 (P2 : Nat)) ∧ w'.cell? ⟨g0, k * 3 + 2, none⟩ = some (.slice (some ⟨eg, 0, none⟩) n n) ∧ w'.cell? ⟨g2, k * 3, none⟩ = some (.int .i64 (P1 : Nat)) ∧ w'.cell? ⟨g2, k * 3 + 1, none⟩ = some (.int .i64 (P2 : Nat)) ∧ w'.cell? ⟨g2, k * 3 + 2, none⟩ = some (.slice fa n fc))
                  (first | exact ⟨y0, y1, y2, y3, y4, y5⟩ | exact ⟨cell_later (by repeat' (first | (with_reducible exact hBt) | (with_reducible refine Below.alloc ?_ ?_ _) | (with_reducible refine Below.drew ?_) | (with_reducible refine below_drewN ?_ _) | (with_reducible refine Below.setCell ?_ ?_ _) | exact hBt.size | (have := hBt.size; first | omega | (simp; done) | (simp; omega)))) y0, cell_later (by repeat' (first | (with_reducible exact hBt) | (with_reducible refine Below.alloc ?_ ?_ _) | (with_reducible refine Below.drew ?_) | (with_reducible refine below_drewN ?_ _) | (with_reducible refine Below.setCell ?_ ?_ _) | exact hBt.size | (have := hBt.size; first | omega | (simp; done) | (simp; omega)))) y1, cell_later (by repeat' (first | (with_reducible exact hBt) | (with_reducible refine Below.alloc ?_ ?_ _) | (with_reducible refine Below.drew ?_) | (with_reducible refine below_drewN ?_ _) | (with_reducible refine Below.setCell ?_ ?_ _) | exact hBt.size | (have := hBt.size; first | omega | (simp; done) | (simp; omega)))) y2, cell_later (by repeat' (first | (with_reducible exact hBt) | (with_reducible refine Below.alloc ?_ ?_ _) | (with_reducible refine Below.drew ?_) | (with_reducible refine below_drewN ?_ _) | (with_reducible refine Below.setCell ?_ ?_ _) | exact hBt.size | (have := hBt.size; first | omega | (simp; done) | (simp; omega)))) y3, cell_later (by repeat' (first | (with_reducible exact hBt) | (with_reducible refine Below.alloc ?_ ?_ _) | (with_reducible refine Below.drew ?_) | (with_reducible refine below_drewN ?_ _) | (with_reducible refine Below.setCell ?_ ?_ _) | exact hBt.size | (have := hBt.size; first | omega | (simp; done) | (simp; omega)))) y4, cell_later (by repeat' (first | (with_reducible exact hBt) | (with_reducible refine Below.alloc ?_ ?_ _) | (with_reducible refine Below.drew ?_) | (with_reducible refine below_drewN ?_ _) | (with_reducible refine Below.setCell ?_ ?_ _) | exact hBt.size | (have := hBt.size; first | omega | (simp; done) | (simp; omega)))) y5⟩)
                  (first
                    | (go_at_call 57; refine (as4_any _ _ _ _ _ _).mono ?_; rintro e w9 ⟨rfl, hb9⟩; replace hBt := bel_step (w := wr) (by repeat' (first | (with_reducible exact hBt) | (with_reducible refine Below.alloc ?_ ?_ _) | (with_reducible refine Below.drew ?_) | (with_reducible refine below_drewN ?_ _) | (with_reducible refine Below.setCell ?_ ?_ _) | exact hBt.size | (have := hBt.size; first | omega | (simp; done) | (simp; omega)))) hb9; have hsz9 := hBt.size)
                    | (go_at_call 35; refine (HSM.out _ (HSE.out.below (by repeat' (first | (with_reducible exact hBt) | (with_reducible refine Below.alloc ?_ ?_ _) | (with_reducible refine Below.drew ?_) | (with_reducible refine below_drewN ?_ _) | (with_reducible refine Below.setCell ?_ ?_ _) | exact hBt.size | (have := hBt.size; first | omega | (simp; done) | (simp; omega))))) (HSF.out.below (by repeat' (first | (with_reducible exact hBt) | (with_reducible refine Below.alloc ?_ ?_ _) | (with_reducible refine Below.drew ?_) | (with_reducible refine below_drewN ?_ _) | (with_reducible refine Below.setCell ?_ ?_ _) | exact hBt.size | (have := hBt.size; first | omega | (simp; done) | (simp; omega)))))).mono ?_; rintro e w9 ⟨rfl, hb9⟩; replace hBt := bel_step (w := wr) (by repeat' (first | (with_reducible exact hBt) | (with_reducible refine Below.alloc ?_ ?_ _) | (with_reducible refine Below.drew ?_) | (with_reducible refine below_drewN ?_ _) | (with_reducible refine Below.setCell ?_ ?_ _) | exact hBt.size | (have := hBt.size; first | omega | (simp; done) | (simp; omega)))) hb9; have hsz9 := hBt.size))
                all_goals
                  go_wp2_with fail
                  go_roundw
                  case rel => exact ⟨k + 1, by omega, by go_num, HBy.out.trans (hBt.mono HBy.out.size)⟩
                  case measure => simp [intOf]; omega
              · have HBg := Lib.hid (HBf.out.trans (HBy.out.mono HBf.out.size))
                clear hBy
                go_wp2
                go_roundw
                case rel => exact ⟨i + 1, by omega, by go_num, HBg.out⟩
                case measure => simp [intOf]; omega
      · have hie : i = 2 := by omega
        have hiI : ¬ (i : Int) < 2 := by omega
        go_wp2_with fail
        refine (lives4_any _).mono ?_
        rintro e w9 ⟨rfl, hb9⟩
        have HBz := Lib.hid ((HBw.out.trans (HB.out.mono HBw.out.size)))
        go_wp2
        go_ret
        exact ⟨rfl, HBz.out.trans (hb9.mono HBz.out.size)⟩
end Go.Proofs.Yteonfgphihacgaa

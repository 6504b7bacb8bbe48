/- An image that may be, made of any, by the document, over any memory. Condition: numbers fit their kinds, at most 9 by 9. -/
import Derived.Test.YtmnhiagppicegaaGreatZImF
import Derived.Test.YtmnhiagppicegaaGreatZgAA
import Derived.Test.YtmnhiagppicegaaGreatZgAC
import Derived.Test.YtmnhiagppicegaaGreatZgAD
import Derived.Deep.AppendLies
import Derived.Deep.RegionLaw
import Derived.Deep.DeepCutAuto
import Derived.BigQuiet
namespace Go.Proofs.YtmnhiagppicegaaGreat
open Go.RowKit
set_option linter.unusedVariables false
def Im.chanV (three : Bool) : Int := if three = true then 3 else 1
/-- what Good hands back -/
def ImGoodR (c m gw gh : Int) (w : World) (e : Ending) (w' : World) : Prop := ∃ ad cp gs, e = .returned (agI c m gw gh (.slice ad gs.length cp)) ∧ gs.length = gw.toNat * gh.toNat ∧ (∀ p ∈ gs, Pq.GoodP p c m) ∧ OwnK .u64 w.heap.size w' ad gs ∧ gs.length ≤ cp ∧ cp ≤ 9223372036854775807 ∧ Below w.heap.size w w'
theorem Im.bel_da {W w9 : World} {o : Obj} (h : Below (W.drew.alloc o).heap.size (W.drew.alloc o) w9) : Below W.heap.size W w9 := (((Below.refl W.heap.size W).drew).alloc (Nat.le_refl _) o).trans (h.mono (by simp))
theorem Im.bel_ad {W w9 : World} {o : Obj} (h : Below (W.alloc o).drew.heap.size (W.alloc o).drew w9) : Below W.heap.size W w9 := (((Below.refl W.heap.size W).alloc (Nat.le_refl _) o).drew).trans (h.mono (by show W.heap.size ≤ (W.alloc o).heap.size; simp))
theorem Im.le_alloc (w : World) (o : Obj) : w.heap.size ≤ (w.alloc o).heap.size := by simp
theorem Im.three_slk (w : World) (x y z : Int) (t : TypeId) : SlK .i64 (w.alloc (.cells #[.int .i64 x, .int .i64 y, .int .i64 z] t)) (some ⟨w.heap.size, 0, none⟩) 3 [x, y, z] := by
  refine ⟨rfl, .inr ⟨w.heap.size, 0, rfl, fun i hi => ?_⟩⟩
  have : i = 0 ∨ i = 1 ∨ i = 2 := by omega
  rcases this with rfl | rfl | rfl <;> simp [go_sem]
theorem Im.three_slkd (w : World) (x y z : Int) (t : TypeId) : SlK .i64 (w.alloc (.cells #[.int .i64 x, .int .i64 y, .int .i64 z] t)).drew (some ⟨w.heap.size, 0, none⟩) 3 [x, y, z] := Im.three_slk w x y z t
set_option maxRecDepth 100000 in
set_option maxHeartbeats 8000000 in
theorem refImGood_any (three : Bool) (mx W H most : Int) (a : Option Addr) (n cap : Nat) (zs : List Int) (hmx : Nu.I mx) (hW : I64 W) (hH : I64 H) (hm : 0 < most) (hm9 : most ≤ 9) (hn : n ≤ 9223372036854775807) (w : World) (hs : SlK .i64 w a n zs) (hz : ∀ x ∈ zs, Nu.I x) :
    Calls Tryz.prog 10 #[.agg #[.bool three, .int .i64 mx, .int .i64 W, .int .i64 H, .slice a n cap], .int .i64 most] w (ImGoodR (Im.chanV three) (Im.formM mx) (goodW W most) (goodW H most) w) := by
  obtain ⟨x0, x1⟩ := Ar.around_lt W most hm
  obtain ⟨y0, y1⟩ := Ar.around_lt H most hm
  have A1 := Lib.hid (fun W2 => around_i hW hm (by omega) W2)
  have A2 := Lib.hid (fun W2 => around_i hH hm (by omega) W2)
  have HFO := Lib.hid (fun W2 => refForm10_any three mx W H a n cap hmx W2)
  have HFM := Lib.hid (Im.form_at mx)
  have HC13 : Hid (Im.chanV three = 1 ∨ Im.chanV three = 3) := Lib.hid (by unfold Im.chanV; cases three <;> simp)
  unfold ImGoodR
  obtain ⟨C, hC⟩ : ∃ C, Im.chanV three = C := ⟨_, rfl⟩
  obtain ⟨D, hD⟩ : ∃ D, Im.formM mx = D := ⟨_, rfl⟩
  unfold Im.chanV at hC
  rw [hC, hD] at HFO
  have hC' : Im.chanV three = C := hC
  rw [hC'] at HC13 ⊢
  rw [hD] at HFM ⊢
  obtain ⟨p, hp⟩ : ∃ p, Ar.around W most = p := ⟨_, rfl⟩
  obtain ⟨q, hq⟩ : ∃ q, Ar.around H most = q := ⟨_, rfl⟩
  have e1 : goodW W most = 1 + p := by unfold goodW; rw [hp]
  have e2 : goodW H most = 1 + q := by unfold goodW; rw [hq]
  rw [hp] at x0 x1 A1
  rw [hq] at y0 y1 A2
  rw [e1, e2]
  obtain ⟨N, hN⟩ : ∃ N, (1 + p).toNat * (1 + q).toNat = N := ⟨_, rfl⟩
  rw [hN]
  have hNp : (1 + p) * (1 + q) = (N : Int) := by rw [← hN, Int.natCast_mul, Int.toNat_of_nonneg (by omega), Int.toNat_of_nonneg (by omega)]
  have hN64 : N ≤ 81 := by
    have : (1 + p) * (1 + q) ≤ 9 * 9 := Int.mul_le_mul (by omega) (by omega) (by omega) (by omega)
    omega
  have k1 : wrap64 ((1 + p) * (1 + q)) = (N : Int) := by rw [hNp, IntWalk.wrap64_in] <;> omega
  have HZ := Lib.hid hz
  have HS := Lib.hid hs
  have B1 := box1 w (.cells #[.bool three, .int .i64 mx, .int .i64 W, .int .i64 H, .slice a n cap] 24)
  obtain ⟨W1, hW1⟩ : ∃ W1, w.alloc (.cells #[.bool three, .int .i64 mx, .int .i64 W, .int .i64 H, .slice a n cap] 24) = W1 := ⟨_, rfl⟩
  have g0 : W1.cell? ⟨w.heap.size, 0, none⟩ = some (.bool three) := by rw [← hW1]; simp [go_sem]
  have g1 : W1.cell? ⟨w.heap.size, 1, none⟩ = some (.int .i64 mx) := by rw [← hW1]; simp [go_sem]
  have g2 : W1.cell? ⟨w.heap.size, 2, none⟩ = some (.int .i64 W) := by rw [← hW1]; simp [go_sem]
  have g3 : W1.cell? ⟨w.heap.size, 3, none⟩ = some (.int .i64 H) := by rw [← hW1]; simp [go_sem]
  have g4 : W1.cell? ⟨w.heap.size, 4, none⟩ = some (.slice a n cap) := by rw [← hW1]; simp [go_sem]
  rw [hW1] at B1
  have hz1 : W1.heap.size = w.heap.size + 1 := by rw [← hW1]; simp
  have B2 := (Below.refl W1.heap.size W1).alloc (Nat.le_refl _) (.cells #[.int .i64 0, .int .i64 0, .int .i64 0, .int .i64 0, .slice none 0 0] 33)
  have R2 := Ib.new W1 33 0 0 0 0 (.slice none 0 0)
  obtain ⟨W2, hW2⟩ : ∃ W2, W1.alloc (.cells #[.int .i64 0, .int .i64 0, .int .i64 0, .int .i64 0, .slice none 0 0] 33) = W2 := ⟨_, rfl⟩
  rw [hW2] at B2 R2
  have hz2 : W2.heap.size = w.heap.size + 2 := by rw [← hW2]; simp [hz1]
  rw [hz1] at R2
  replace g0 := cell_later B2 g0
  replace g1 := cell_later B2 g1
  replace g2 := cell_later B2 g2
  replace g3 := cell_later B2 g3
  replace g4 := cell_later B2 g4
  have HB := Lib.hid (bel_step (w := w) B1 B2)
  clear hz hs B1 B2 hp hq hN hW hH hmx hC hC' hD e1 e2 hNp
  go_enter Tryz.func10, Tryz.ntmps10
  go_upto_region 1 with fail
  try rw [hW1]
  try rw [hW2]
  try rw [hz1]
  clear hW1 hW2
  go_wp2_with fail
  refine (HFO.out _).mono ?_
  rintro e w3 ⟨rfl, hb3⟩
  replace g2 := cell_later hb3 g2
  replace g3 := cell_later hb3 g3
  replace g4 := cell_later hb3 g4
  have R3 := R2.later hb3
  have HB3 := Lib.hid (HB.out.trans (hb3.mono HB.out.size))
  have hz3 : w.heap.size + 2 ≤ w3.heap.size := by have := hb3.size; omega
  clear g0 g1 R2 hb3 HB HFO
  go_upto_region 2 with fail
  have B4 := (Below.refl w3.heap.size w3).alloc (Nat.le_refl _) (.cells #[.int .i64 C, .int .i64 D] 28)
  have f0 : (w3.alloc (.cells #[.int .i64 C, .int .i64 D] 28)).cell? ⟨w3.heap.size, 0, none⟩ = some (.int .i64 C) := by simp [go_sem]
  have f1 : (w3.alloc (.cells #[.int .i64 C, .int .i64 D] 28)).cell? ⟨w3.heap.size, 1, none⟩ = some (.int .i64 D) := by simp [go_sem]
  obtain ⟨fb, hfb⟩ : ∃ fb, w3.heap.size = fb := ⟨_, rfl⟩
  obtain ⟨W4, hW4⟩ : ∃ W4, w3.alloc (.cells #[.int .i64 C, .int .i64 D] 28) = W4 := ⟨_, rfl⟩
  have hz4 : W4.heap.size = fb + 1 := by rw [← hW4, ← hfb]; simp
  rw [hW4] at B4 f0 f1
  try rw [hW4]
  rw [hfb] at f0 f1 hz3
  try rw [hfb]
  replace g2 := cell_later B4 g2
  replace g3 := cell_later B4 g3
  replace g4 := cell_later B4 g4
  have HR4 := Lib.hid (R3.later B4)
  have HB4 := Lib.hid (HB3.out.trans (B4.mono HB3.out.size))
  clear hW4 hfb B4 R3 HB3
  have hBt := Below.refl W4.heap.size W4
  have wp1 : IntKind.i64.wrap (1 + p) = 1 + p := by rw [IntWalk.i64_in] <;> omega
  have wq1 : IntKind.i64.wrap (1 + q) = 1 + q := by rw [IntWalk.i64_in] <;> omega
  go_cut [6] (fun s6 wx => ∃ b6, s6 = .pointer (some ⟨b6, 0, none⟩) ∧ W4.heap.size ≤ b6 ∧ Sb wx b6 31 (.int .i64 (1 + p)) (.int .i64 (1 + q)) (.slice none 0 0) ∧ Below W4.heap.size W4 wx)
  case first =>
    go_region_held3 (fun w' => w'.cell? ⟨w.heap.size, 2, none⟩ = some (.int .i64 W) ∧ w'.cell? ⟨w.heap.size, 3, none⟩ = some (.int .i64 H))
      (first | exact ⟨g2, g3⟩ | exact ⟨cell_later (by repeat' (first | (with_reducible exact hBt) | (with_reducible refine Below.alloc ?_ ?_ _) | (with_reducible refine Below.drew ?_) | (with_reducible refine below_drewN ?_ _) | (with_reducible refine Below.setCell ?_ ?_ _) | exact hBt.size | (have := hBt.size; first | omega | (simp; done) | (simp; omega)))) g2, cell_later (by repeat' (first | (with_reducible exact hBt) | (with_reducible refine Below.alloc ?_ ?_ _) | (with_reducible refine Below.drew ?_) | (with_reducible refine below_drewN ?_ _) | (with_reducible refine Below.setCell ?_ ?_ _) | exact hBt.size | (have := hBt.size; first | omega | (simp; done) | (simp; omega)))) g3⟩)
      (first
        | (go_at_call 11; (first | (with_reducible refine (A1.out _).mono ?_) | (with_reducible refine (A2.out _).mono ?_)); rintro e w9 ⟨rfl, rfl⟩))
    all_goals
      go_wp2_with fail
      go_meet
      case rel => exact ⟨_, rfl, by omega, by rw [← hz4]; exact (Sb.new _ _ _ _ _).drew, (by repeat' (first | (with_reducible exact hBt) | (with_reducible refine Below.alloc ?_ ?_ _) | (with_reducible refine Below.drew ?_) | (with_reducible refine below_drewN ?_ _) | (with_reducible refine Below.setCell ?_ ?_ _) | exact hBt.size | (have := hBt.size; first | omega | (simp; done) | (simp; omega))))⟩
  case rest =>
    obtain ⟨b6, rfl, hb6, hO, hBx⟩ := hcut
    have hlt6 := hO.lt
    obtain ⟨i0, hi, hz0, hz1', hz2'⟩ := info_parts Tryz.info_px
    have HBX := Lib.hid hBx
    have HO := Lib.hid hO
    have G2 := Lib.hid g2; have G3 := Lib.hid g3; have G4 := Lib.hid g4; have F0 := Lib.hid f0; have F1 := Lib.hid f1
    obtain ⟨base, hbase⟩ : ∃ k, wc.heap.size = k := ⟨_, rfl⟩
    have hszc : W4.heap.size ≤ base := by rw [← hbase]; exact hBx.size
    rw [hbase] at hlt6
    have hlf : fb < base := by omega
    have HBASE := Lib.hid hbase
    clear hBx hO g2 g3 g4 f0 f1 hBt A1 A2 wp1 wq1 hbase
    have HA3 : Hid (∀ y, Nu.I y → ∀ W, Calls Tryz.prog 11 #[.int .i64 y, .int .i64 3] W fun e w' => e = .returned (.int .i64 (Ar.around y 3)) ∧ W = w') := Lib.hid fun y hy W => aroundOf y 3 hy.1 hy.2 (by omega) (by omega) W
    have HGD : Hid (∀ (W' : World) (A' : Option Addr) (c' : Nat) (l : List Int), (∀ z ∈ l, Nu.I z) → l.length = 3 → SlK .i64 W' A' 3 l → Calls Tryz.prog 47 #[.slice A' 3 c', .agg #[.int .i64 C, .int .i64 D]] W' fun e w' => e = .returned (.int .u64 (Pq.Px.goodV l C D)) ∧ Below W'.heap.size W' w') := Lib.hid fun W' A' c' l hI hl3 h => Pq.good_sl A' 3 c' l C D (by omega) (fun z hz => hI z hz) HC13.out (by have := HFM.out; omega) HFM.out.2 W' h
    have HGI : Hid (∀ l, Pq.GoodP (Pq.Px.goodV l C D) C D) := Lib.hid fun l => Pq.good_is l HC13.out (by have := HFM.out; omega) HFM.out.2
    go_wp2_with fail
    go_loopw [7] (fun i wr => ∃ (k : Nat) (v : Value) (gs : List Int), k ≤ N ∧ i = .int .i64 k ∧ gs.length = k ∧ Hid (∀ g ∈ gs, Pq.GoodP g C D) ∧ Below W4.heap.size W4 wr ∧ base ≤ wr.heap.size ∧ Sb wr b6 31 (.int .i64 (1 + p)) (.int .i64 (1 + q)) v ∧ wr.ownsRow base 26 1 v k (gs.map (Value.int .u64))) (fun i _ => N - (intOf i).toNat)
    case atStart => exact ⟨0, _, [], Nat.zero_le _, rfl, rfl, Lib.hid (fun g hg => absurd hg (by simp)), HBX.out, by rw [HBASE.out]; exact Nat.le_refl _, HO.out, World.ownsRow_nil _ _ _ _⟩
    case round =>
      obtain ⟨k, v, gs, hk, rfl, hgl, HGS, hBw, hcs, hOr, hrow⟩ := hrel
      by_cases hlt : k < N
      · have hltI : (k : Int) < (N : Int) := by omega
        obtain ⟨o0, o1, o2⟩ := hOr.cells
        have u4 := cell_later hBw G4.out
        have HOR := Lib.hid hOr
        have HBW := Lib.hid hBw
        have HROW := Lib.hid hrow
        have HGL := Lib.hid hgl
        clear hOr hBw hrow hgl
        go_upto_if 35 with fail
        go_cut [8] (fun s8 wx => ∃ y, s8 = .int .i64 y ∧ Nu.I y ∧ Below wr.heap.size wr wx)
        case first =>
          by_cases hn0 : n = 0
          · subst hn0
            go_wp2_with fail
            go_meet
            case rel => exact ⟨0, rfl, by unfold Nu.I; omega, .refl _ _⟩
          · have hn1 : decide ((0 : Int) < (n : Int)) = true := decide_eq_true (by omega)
            have hrem : (k : Int).tmod (n : Int) = ((k % n : Nat) : Int) := by rw [Int.tmod_eq_emod_of_nonneg (by omega)]; rfl
            obtain ⟨b, off, rfl, hcell⟩ := slk_pos HS.out (by omega)
            have hkn : k % n < n := Nat.mod_lt _ (by omega)
            have hcv := cell_later (HB4.out.trans (HBW.out.mono HB4.out.size)) (hcell (k % n) hkn)
            obtain ⟨r, hr⟩ : ∃ r, k % n = r := ⟨_, rfl⟩
            obtain ⟨x, hx⟩ : ∃ x, zs.getD (k % n) 0 = x := ⟨_, rfl⟩
            have hxm : x ∈ zs := by rw [← hx, List.getD_eq_getElem?_getD, List.getElem?_eq_getElem (by rw [HS.out.1]; exact hkn)]; exact List.getElem_mem _
            have HXI := Lib.hid (HZ.out x hxm)
            rw [hx, hr] at hcv
            rw [hr] at hrem hkn
            have hnz : ((n : Int) == 0) = false := by simp; omega
            have hnz2 : ¬ (n : Int) = 0 := by omega
            clear hcell hr hx hxm
            go_wp2_with (go_quiet (fail))
            go_meet
            case rel => exact ⟨x, rfl, HXI.out, bel_drewN (Below.refl _ _) nq⟩
        case rest =>
          obtain ⟨y, rfl, hy, hBy⟩ := hcut
          have hz3 := Ar.around_lt y 3 (by omega)
          obtain ⟨z, hz⟩ : ∃ z : Nat, Ar.around y 3 = (z : Int) := ⟨(Ar.around y 3).toNat, by omega⟩
          rw [hz] at hz3
          have HA := Lib.hid (fun W => HA3.out y hy W)
          rw [hz] at HA
          obtain ⟨z2, hz2'⟩ : ∃ z2 : Nat, z / 2 = z2 := ⟨_, rfl⟩
          have hq1 : (z : Int) / 2 = (z2 : Int) := by omega
          have hq5 : IntKind.i64.wrap (z2 : Int) = (z2 : Int) := by rw [IntWalk.i64_in] <;> omega
          obtain ⟨m0, m1, m2⟩ := (HOR.out.later hBy).cells
          obtain ⟨t0, t1, t2⟩ := (HOR.out.later hBy).fr
          have HMD := Lib.hid (HOR.out.later hBy)
          have HRD := Lib.hid (ownsRow_later HROW.out hBy)
          have hWb := HBW.out.trans (hBy.mono HBW.out.size)
          have f0 := cell_later hWb F0.out
          have f1 := cell_later hWb F1.out
          have HWB := Lib.hid hWb
          have hcs2 : base ≤ wc.heap.size := Nat.le_trans hcs hBy.size
          have hl6 : b6 < wc.heap.size := by omega
          have hl7 : fb < wc.heap.size := by omega
          clear hWb hBy HOR HROW hz hy HA3 u4 o0 o1 o2 hz2'
          go_wp2_with (go_at_call 11; refine (HA.out _).mono ?_; rintro e w9 ⟨rfl, rfl⟩)
          have KX : Hid (∀ l, Pq.Px.goodV l C D = Pq.Px.goodV l C D) := fun _ => rfl
          obtain ⟨x, hx⟩ : ∃ x, Pq.Px.goodV [(z : Int), (z2 : Int), 0] C D = x := ⟨_, rfl⟩
          have HXG : Hid (Pq.GoodP x C D) := by show Pq.GoodP x C D; rw [← hx]; exact HGI.out _
          have HGO : Hid (∀ (W' : World) (A' : Option Addr), SlK .i64 W' A' 3 [(z : Int), (z2 : Int), 0] → Calls Tryz.prog 47 #[.slice A' 3 3, .agg #[.int .i64 C, .int .i64 D]] W' fun e w' => e = .returned (.int .u64 x) ∧ Below W'.heap.size W' w') := Lib.hid fun W' A' h => by
            have := HGD.out W' A' 3 [(z : Int), (z2 : Int), 0] (by intro u hu; simp at hu; unfold Nu.I; omega) rfl h
            rw [hx] at this
            exact this
          clear hx KX HGI HGD
          have q1 : k + 1 ≤ maxLen := by unfold maxLen; omega
          have q2 : (k + 1) * 8 ≤ 140737488355328 := by omega
          have z1 : ∀ u ∈ [Value.int .u64 x], u.oneCell' = true := by intro u hu; rw [List.mem_singleton.1 hu]; rfl
          go_wp2_with fail
          go_region_law
            (first
              | (refine step_append_lies _ rfl _ _ 29 rfl base 26 i0 (.int .u64 0) 1 8 Tryz.underlying29 hi hz0 hz1' hz2' rfl Nat.one_pos v k _ rfl (HR9.out.alloc _) ⟨w9.heap.size, 0, none⟩ 1 1 [.int .u64 x] rfl rfl (cell_one_new _ _ _) z1 Nat.one_pos q1 q2 (Nat.le_trans hz9 (Im.le_alloc _ _)) _ rfl ?_; intro gg cc w5 hown' hgrow' _ _; obtain ⟨u1, u2, u3, u4, u5⟩ := pushL (W := w9) HM9.out HR9.out hlt6 hz9 hown' hgrow'; obtain ⟨k3, k4, k2⟩ := u1.cells; obtain ⟨k5, k6, k7⟩ := u1.fr)
              | (go_simp; go_at_call 47; refine (HGO.out _ _ (by first | exact Im.three_slkd _ _ _ _ _ | exact Im.three_slk _ _ _ _ _)).mono ?_; rintro e w9 ⟨rfl, hb9⟩; have hB9 : Below wc.heap.size wc w9 := (by first | exact Im.bel_ad hb9 | exact Im.bel_da hb9); have hB9a := hB9.alloc hB9.size (.cells #[.int .u64 x] 26); have HR9 := Lib.hid (ownsRow_later HRD.out hB9); have HM9 := Lib.hid (HMD.out.later hB9); have m2a := cell_later hB9a m2; have m2' := cell_later hB9 m2; have hz9 : base ≤ w9.heap.size := Nat.le_trans hcs2 hB9.size))
          all_goals
            have HU2 := Lib.hid u2
            have HU3 := Lib.hid u3
            have HU4 := Lib.hid (HWB.out.trans ((hB9.mono HWB.out.size).trans (u4 _ hb6)))
            have HU5 := Lib.hid u5
            clear u1 u2 u3 u4 u5 k2 k3 k4 k5 k6 k7 hown' hgrow'
            go_wp2
            go_roundw
            case rel => exact ⟨k + 1, _, gs ++ [x], by omega, by go_num, by rw [List.length_append, HGL.out]; rfl, Lib.hid (fun g hg => by
              rcases List.mem_append.1 hg with h | h
              · exact HGS.out g h
              · rw [List.mem_singleton.1 h]; exact HXG.out), HU4.out, HU5.out, HU2.out, by rw [List.map_append]; exact HU3.out⟩
            case measure => simp [intOf]; omega
      · have hltI : ¬ (k : Int) < (N : Int) := by omega
        obtain rfl : k = N := by omega
        have hR5 := HR4.out.later hBw
        obtain ⟨r0, r1, r2, r3, r4⟩ := hR5.cells
        obtain ⟨y0', y1', y2', y3', y4'⟩ := hR5.fr
        obtain ⟨o0, o1, o2⟩ := hOr.cells
        have f0 := cell_later hBw F0.out
        have f1 := cell_later hBw F1.out
        have hBf := HB4.out.trans (hBw.mono HB4.out.size)
        have hws : w.heap.size ≤ base := by omega
        obtain ⟨ad, cap', rfl, hown, hcap⟩ := ownK_row hgl hrow
        have hcap2 : cap' ≤ 9223372036854775807 := by
          rcases hrow.2 with ⟨h, _⟩ | ⟨g9, cap9, cur9, h, _, _, _, h9, _⟩
          · cases h; omega
          · cases h; exact h9
        have hlw : w.heap.size + 1 < base := by omega
        go_wp2
        (try simp only [Exit.inBlock, Exit.then])
        refine bodyPost_ret (Hj.ret1 Tryz.results10 _ _ _ _ rfl (load_ri (hR5.put C D (1 + p) (1 + q) (.slice ad k cap')))) rfl ?_
        have hS := (ownK_set (ownK_set (ownK_set (ownK_set (ownK_set hown (a := ⟨w.heap.size + 1, 0, none⟩) hlw (.int .i64 C)) (a := ⟨w.heap.size + 1, 1, none⟩) hlw (.int .i64 D)) (a := ⟨w.heap.size + 1, 2, none⟩) hlw (.int .i64 (1 + p))) (a := ⟨w.heap.size + 1, 3, none⟩) hlw (.int .i64 (1 + q))) (a := ⟨w.heap.size + 1, 4, none⟩) hlw (.slice ad k cap')).mono hws
        exact ⟨ad, cap', gs, by rw [hgl], hgl, HGS.out, hS, by omega, hcap2, ((((hBf.setCell (by simp) _).setCell (by simp) _).setCell (by simp) _).setCell (by simp) _).setCell (by simp) _⟩
end Go.Proofs.YtmnhiagppicegaaGreat

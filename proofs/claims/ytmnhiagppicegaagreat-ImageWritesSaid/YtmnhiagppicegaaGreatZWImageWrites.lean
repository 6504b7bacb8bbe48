/- ImageWrites: an image's bytes are the document's, or it is refused; they are parsed as it was: the walk of the law. No condition. -/
import Derived.Test.YtmnhiagppicegaaGreatZgAI
import Derived.Test.YtmnhiagppicegaaGreatZImG
import Derived.Test.YtmnhiagppicegaaGreatZImL
import Derived.Test.YtmnhiagppicegaaGreatZImQ
import Derived.Test.YtmnhiagppicegaaGreatZgAH
import Derived.Test.YtmnhiagppicegaaGreatZgAD
import Derived.Test.YtmnhiagppicegaaGreatZgAB
import Derived.Deep.RegionHeld3
import Derived.Deep.DeepCutAuto
import Derived.BigQuiet
namespace Go.Proofs.YtmnhiagppicegaaGreat
open Go.RowKit
set_option linter.unusedVariables false
theorem bel_undW {w w' : World} (h : Below w.drew.heap.size w.drew w') : Below w.heap.size w w' := ((Below.refl w.heap.size w).drew).trans (h.mono (Nat.le_refl _))
theorem Im.n_posW {W H : Int} {L : List Int} (h : Rc.Ok W H L) (hw : W ≤ 9) (hh : H ≤ 9) : 1 ≤ L.length ∧ L.length ≤ 81 := by
  obtain ⟨h1, _, h3, _, _, h6⟩ := h
  rw [h6]
  have a1 : 1 ≤ H.toNat := by omega
  have a2 : 1 ≤ W.toNat := by omega
  have b1 : H.toNat ≤ 9 := by omega
  have b2 : W.toNat ≤ 9 := by omega
  have h7 := Nat.mul_le_mul a1 a2
  have h8 := Nat.mul_le_mul b1 b2
  omega
theorem heap_new10 (w : World) (o : Obj) : (w.alloc o).heap[w.heap.size]? = some o := heapNew _ _
set_option maxRecDepth 100000 in
set_option maxHeartbeats 8000000 in
theorem imageWrites_walk (a0t0 : Bool) (a0m1 : Int) (a0w2 : Int) (a0h3 : Int) (a0 : Option Addr) (len0 cap0 : Nat) (z0 : List Int) (a1 : Int) (a2 : Int) (a3 : Int) (w : World) (w01 : (Lit.int .i64 a0m1).wf = true) (w02 : (Lit.int .i64 a0w2).wf = true) (w03 : (Lit.int .i64 a0h3).wf = true) (w04 : IsRow .i64 w a0 len0 cap0 z0) (w1 : (Lit.int .i64 a1).wf = true) (w2 : (Lit.int .i64 a2).wf = true) (w3 : (Lit.int .u64 a3).wf = true) :
    Calls Tryz.prog 3 #[.agg #[.bool a0t0, .int .i64 a0m1, .int .i64 a0w2, .int .i64 a0h3, .slice a0 len0 cap0], .int .i64 a1, .int .i64 a2, .int .u64 a3] w fun e w' => e = .returned (.bool true) ∧ Below w.heap.size w w' := by
  obtain ⟨l1, l2, l3, l4⟩ := isrow_len w04
  have S0 := isrow_takeK w04 len0 (Nat.le_refl _)
  have J0 : ∀ x ∈ z0.take len0, Nu.I x := fun x hx => wfI (isrow_wfK w04 x (List.mem_of_mem_take hx))
  have i01 := wfI w01; have i02 := wfI w02; have i03 := wfI w03
  have IA1 := Lib.hid (wfI w1)
  have IA2 := Lib.hid (wfI w2)
  have IU3 : Hid (Pq.Px.U a3) := Lib.hid (by simp [Lit.wf, IntKind.min, IntKind.max, IntKind.bits, IntKind.signed] at w3; unfold Pq.Px.U; omega)
  obtain ⟨C0, hC0⟩ : ∃ x, Im.chanV a0t0 = x := ⟨_, rfl⟩
  obtain ⟨D0, hD0⟩ : ∃ x, Im.formM a0m1 = x := ⟨_, rfl⟩
  have gw0 := goodW_in a0w2 9 (by omega)
  have gh0 := goodW_in a0h3 9 (by omega)
  obtain ⟨GW0, hGW0⟩ : ∃ x, goodW a0w2 9 = x := ⟨_, rfl⟩
  obtain ⟨GH0, hGH0⟩ : ∃ x, goodW a0h3 9 = x := ⟨_, rfl⟩
  have HG0 : Hid (∀ W', Below w.heap.size w W' → Calls Tryz.prog 10 #[.agg #[.bool a0t0, .int .i64 a0m1, .int .i64 a0w2, .int .i64 a0h3, .slice a0 len0 cap0], .int .i64 9] W' (ImGoodR C0 D0 GW0 GH0 W')) := Lib.hid fun W' hb => by
    have := refImGood_any a0t0 a0m1 a0w2 a0h3 9 a0 len0 cap0 (z0.take len0) i01 i02 i03 (by omega) (by omega) (by omega) W' (S0.below hb) J0
    rw [hC0, hD0, hGW0, hGH0] at this
    exact this
  unfold ImGoodR agI at HG0
  rw [hGW0] at gw0
  rw [hGH0] at gh0
  have hm01 := Im.form_at a0m1
  rw [hD0] at hm01
  have hc01 : Nu.I C0 := by rw [← hC0]; unfold Im.chanV; split <;> (unfold Nu.I; omega)
  have HCI := Lib.hid hc01
  have HMI : Hid (Nu.I D0) := Lib.hid (by unfold Nu.I; omega)
  have HDM := Lib.hid hm01
  have hB0 := box1 w (.cells #[.bool a0t0, .int .i64 a0m1, .int .i64 a0w2, .int .i64 a0h3, .slice a0 len0 cap0] 24)
  have fA := Fv.new w 24 (.bool a0t0) (.int .i64 a0m1) (.int .i64 a0w2) (.int .i64 a0h3) (.slice a0 len0 cap0)
  obtain ⟨W1, hW1⟩ : ∃ W1, w.alloc (.cells #[.bool a0t0, .int .i64 a0m1, .int .i64 a0w2, .int .i64 a0h3, .slice a0 len0 cap0] 24) = W1 := ⟨_, rfl⟩
  rw [hW1] at hB0 fA
  have HB := Lib.hid hB0
  obtain ⟨x0, x1, x2, x3, x4⟩ := fA.cells
  clear S0 J0 i01 i02 i03 hB0 fA w01 w02 w03 w04 w1 w2 w3 hC0 hD0 hGW0 hGH0 hc01 hm01
  go_enter Tryz.func3, Tryz.ntmps3
  go_upto_region 1 with fail
  try rw [hW1]
  clear hW1
  go_wp2_with fail
  refine (HG0.out _ HB.out).mono ?_
  rintro e w3 ⟨ad0, cp0, gs0, rfl, hgl0, hgp0, ho0, hc0, hd0, hb⟩
  have hok0 := Im.good_ok (c := 0) (m := 0) (gw := 0) (gh := 0) (n := 0) (W := GW0) (H := GH0) (by omega) (by omega) hgl0
  have HGP0 := Lib.hid hgp0
  obtain ⟨gw, hgw⟩ : ∃ gw : Nat, GW0 = (gw : Int) := ⟨GW0.toNat, by omega⟩
  obtain ⟨gh, hgh⟩ : ∃ gh : Nat, GH0 = (gh : Int) := ⟨GH0.toNat, by omega⟩
  subst hgw
  subst hgh
  obtain ⟨n0, hn0⟩ : ∃ k, gs0.length = k := ⟨_, rfl⟩
  have hnp := Im.n_posW hok0 (by omega) (by omega)
  rw [Int.toNat_natCast, Int.toNat_natCast] at hgl0
  have HGL := Lib.hid hgl0
  have HN0 := Lib.hid hn0
  rw [hn0] at hnp hc0
  obtain ⟨hn01, hn02⟩ := hnp
  obtain ⟨p0, o0, e0, hcl0⟩ := slk_pos (show SlK .u64 w3 ad0 n0 gs0 by have := ho0.sl; rwa [hn0] at this) (by omega)
  subst e0
  have HSM := Lib.hid (show SlK .u64 w3 (some ⟨p0, o0, none⟩) n0 gs0 by have := ho0.sl; rwa [hn0] at this)
  have HW9 : Hid (gw ≤ 9 ∧ gh ≤ 9) := Lib.hid (by omega)
  have HOK := Lib.hid hok0
  rw [hn0]
  have HB3 := Lib.hid (HB.out.trans (hb.mono HB.out.size))
  clear x0 x1 x2 x3 x4 hcl0 ho0 hgp0 hgl0 hok0 hb HG0 gw0 gh0 hn0 HB l1 l2 l3 l4
  go_upto_region 2 with fail
  have X := Ib.new w3 33 C0 D0 (gw : Int) (gh : Int) (.slice (some ⟨p0, o0, none⟩) n0 cp0)
  have hb4 := box1 w3 (.cells #[.int .i64 C0, .int .i64 D0, .int .i64 (gw : Int), .int .i64 (gh : Int), .slice (some ⟨p0, o0, none⟩) n0 cp0] 33)
  obtain ⟨W4, hW4⟩ : ∃ W4, w3.alloc (.cells #[.int .i64 C0, .int .i64 D0, .int .i64 (gw : Int), .int .i64 (gh : Int), .slice (some ⟨p0, o0, none⟩) n0 cp0] 33) = W4 := ⟨_, rfl⟩
  rw [hW4] at X hb4
  try rw [hW4]
  obtain ⟨mb, hmb⟩ : ∃ mb, w3.heap.size = mb := ⟨_, rfl⟩
  rw [hmb] at X
  try rw [hmb]
  have HX4 := Lib.hid X
  have HS4 := Lib.hid (HSM.out.below hb4)
  have HB4 := Lib.hid (bel_step HB3.out hb4)
  clear X hb4 hW4 hmb HSM HB3
  go_upto_region 3 with fail
  have Y := Fv.new W4 33 (.int .i64 0) (.int .i64 0) (.int .i64 0) (.int .i64 0) (.slice none 0 0)
  have hb5 := box1 W4 (.cells #[.int .i64 0, .int .i64 0, .int .i64 0, .int .i64 0, .slice none 0 0] 33)
  obtain ⟨W5, hW5⟩ : ∃ W5, W4.alloc (.cells #[.int .i64 0, .int .i64 0, .int .i64 0, .int .i64 0, .slice none 0 0] 33) = W5 := ⟨_, rfl⟩
  rw [hW5] at Y hb5
  try rw [hW5]
  have hmo : mb < W4.heap.size := HX4.out.lt
  have hwo : w.heap.size ≤ W4.heap.size := HB4.out.size
  obtain ⟨ob, hob⟩ : ∃ ob, W4.heap.size = ob := ⟨_, rfl⟩
  rw [hob] at Y hmo hwo
  try rw [hob]
  have HX5 := Lib.hid (HX4.out.later hb5)
  have HS5 := Lib.hid (HS4.out.below hb5)
  have HB5 := Lib.hid (bel_step HB4.out hb5)
  have hp5 : p0 < ob := by
    obtain ⟨q1, q2, qe, hq⟩ := slk_pos HS4.out (by omega)
    injection qe with qe
    injection qe with qe1 _ _
    subst qe1
    have hlt : p0 < W4.heap.size := block_lt_of_cell (hq 0 (by omega))
    omega
  obtain ⟨x0, x1, x2, x3, x4⟩ := HX5.out.cells
  obtain ⟨y0, y1, y2, y3, y4⟩ := Y.cells
  obtain ⟨f0, f1, f2, f3, f4⟩ := Y.fr
  have Y6 := Lib.hid ((((Y.set0 (.int .i64 C0)).set1 (.int .i64 D0)).set2 (.int .i64 (gw : Int))).set3 (.int .i64 (gh : Int)))
  have hne : ∀ q, (⟨ob, q, none⟩ : Addr).block ≠ mb := fun q => by show ob ≠ mb; omega
  have X6 := Lib.hid ((((HX5.out.far (hne 0) (.int .i64 C0)).far (hne 1) (.int .i64 D0)).far (hne 2) (.int .i64 (gw : Int))).far (hne 3) (.int .i64 (gh : Int)))
  have hso : ∀ y, (some (⟨p0, o0, none⟩ : Addr)) = some y → y.block ≠ ob := fun y e => by cases e; show p0 ≠ ob; omega
  have S6 := Lib.hid (Im.slk_put (k := 3) (v := .int .i64 (gh : Int)) (Im.slk_put (k := 2) (v := .int .i64 (gw : Int)) (Im.slk_put (k := 1) (v := .int .i64 D0) (Im.slk_put (k := 0) (v := .int .i64 C0) HS5.out hso) hso) hso) hso)
  have B6 := Lib.hid ((((HB5.out.setCell (p := ⟨ob, 0, none⟩) hwo (.int .i64 C0)).setCell (p := ⟨ob, 1, none⟩) hwo (.int .i64 D0)).setCell (p := ⟨ob, 2, none⟩) hwo (.int .i64 (gw : Int))).setCell (p := ⟨ob, 3, none⟩) hwo (.int .i64 (gh : Int)))
  clear hW5 hob hb5 HX4 HS4 HB4 Y hne
  go_upto_region 6 with fail
  obtain ⟨W6, hW6⟩ : ∃ W6, (((W5.setCell ⟨ob, 0, none⟩ (.int .i64 C0)).setCell ⟨ob, 1, none⟩ (.int .i64 D0)).setCell ⟨ob, 2, none⟩ (.int .i64 (gw : Int))).setCell ⟨ob, 3, none⟩ (.int .i64 (gh : Int)) = W6 := ⟨_, rfl⟩
  rw [hW6] at Y6 X6 S6 B6
  try rw [hW6]
  clear hW6 x0 x1 x2 x3 x4 y0 y1 y2 y3 y4 f0 f1 f2 f3 f4 HX5 HS5 HB5
  obtain ⟨x0, x1, x2, x3, x4⟩ := X6.out.cells
  obtain ⟨y0, y1, y2, y3, y4⟩ := Y6.out.cells
  obtain ⟨i0, hi, hz0, hz1, hz2⟩ := info_parts Tryz.info_px
  go_cut [10] from 39 to 47 (fun s10 wx => ∃ (W7 : World) (g1 gcap : Nat), W7 = wx ∧ s10 = .pointer (some ⟨ob, 0, none⟩) ∧ Ib W7 mb 33 C0 D0 (gw : Int) (gh : Int) (.slice (some ⟨p0, o0, none⟩) n0 cp0) ∧ Fv W7 ob 33 (.int .i64 C0) (.int .i64 D0) (.int .i64 (gw : Int)) (.int .i64 (gh : Int)) (.slice (some ⟨g1, 0, none⟩) n0 gcap) ∧ SlK .u64 W7 (some ⟨p0, o0, none⟩) n0 gs0 ∧ SlK .u64 W7 (some ⟨g1, 0, none⟩) n0 gs0 ∧ n0 ≤ gcap ∧ gcap ≤ 9223372036854775807 ∧ ob < g1 ∧ g1 < W7.heap.size ∧ (∀ q, W7.frozen? ⟨g1, q, none⟩ = false) ∧ Below w.heap.size w W7)
  case first =>
    go_wp2_with (at_builtin; refine wpList_app rfl _ _ 29 rfl W6.heap.size 26 i0 .u64 8 Tryz.underlying29 hi hz0 hz1 hz2 (.slice none 0 0) 0 [] rfl (World.ownsRow_nil _ _ _ _) (some ⟨p0, o0, none⟩) n0 cp0 gs0 rfl S6.out (by unfold maxLen; omega) (by omega) (Nat.le_refl _) ?_; intro v2 w7 hown hgrow _; have HB7 : Hid (Below W6.heap.size W6 w7) := Lib.hid ((Below.refl _ _).grown hgrow (Nat.le_refl _) (fun j ej => by cases ej)); rw [Nat.zero_add, List.nil_append] at hown; obtain ⟨g1, gcap, rfl, hg1, hg2, hsl, hle, hc9, -, hfr⟩ := Im.own_px hown HN0.out hn01; have HSL := Lib.hid hsl; have HFR := Lib.hid hfr; have Y7 := Lib.hid (Y6.out.later HB7.out); obtain ⟨f0, f1, f2, f3, f4⟩ := Y7.out.fr; obtain ⟨z0', z1', z2', z3', z4'⟩ := Y7.out.cells; clear hown hgrow hsl hfr)
    have hlo := Y6.out.lt
    have hgo : ob < g1 := by omega
    have hng : ∀ y, (some (⟨g1, 0, none⟩ : Addr)) = some y → y.block ≠ ob := fun y e => by cases e; show g1 ≠ ob; omega
    go_meet
    case rel =>
      refine ⟨_, g1, gcap, rfl, rfl, (X6.out.later HB7.out).far (by show ob ≠ mb; omega) _, Y7.out.set4 _, Im.slk_put (S6.out.below HB7.out) hso, Im.slk_put HSL.out hng, hle, hc9, hgo, by simpa using hg2, fun q => ?_, (bel_step B6.out HB7.out).setCell (by show w.heap.size ≤ ob; omega) _⟩
      rw [World.frozen?_setCell]; exact HFR.out q
  case rest =>
    obtain ⟨W7, g1, gcap, rfl, rfl, X7, Y7, S7, T7, hle, hc9, hgo, hgl, hfr, B7⟩ := hcut
    have X7 := Lib.hid X7
    have Y7 := Lib.hid Y7
    have S7 := Lib.hid S7
    have T7 := Lib.hid T7
    have HFR := Lib.hid hfr
    have B7 := Lib.hid B7
    clear x0 x1 x2 x3 x4 y0 y1 y2 y3 y4 X6 Y6 S6 B6 hso hfr hi hz0 hz1 hz2
    obtain ⟨kk, hkk⟩ : ∃ q : Nat, Ar.around a2 (n0 : Int) = (q : Int) := ⟨(Ar.around a2 n0).toNat, by have := Ar.around_lt a2 (n0 : Int) (by omega); omega⟩
    have hj := Ar.around_lt a2 (n0 : Int) (by omega)
    have HAR := Lib.hid (fun W => aroundOf a2 (n0 : Int) IA2.out.1 IA2.out.2 (by omega) (by omega) W)
    rw [hkk] at HAR hj
    have hkn : kk < n0 := by omega
    have hkn0 : (0 : Int) ≤ (kk : Int) := Int.natCast_nonneg _
    have hkn1 : (kk : Int) < (n0 : Int) := by omega
    have hgk : ∃ v, W7.cell? ⟨g1, kk, none⟩ = some v := by
      obtain ⟨q1, q2, qe, hq⟩ := slk_pos T7.out (by omega)
      injection qe with qe
      injection qe with qe1 qe2 _
      subst qe1
      subst qe2
      have := hq kk hkn
      rw [Nat.zero_add] at this
      exact ⟨_, this⟩
    obtain ⟨gv, hgv⟩ := hgk
    have hgf := HFR.out kk
    clear hkk hj
    go_upto_region 7 with fail

    have hS : W7.drew.cell? ⟨ob, 0, none⟩ = some (.int .i64 C0) ∧ W7.drew.cell? ⟨ob, 1, none⟩ = some (.int .i64 D0) ∧ W7.drew.cell? ⟨ob, 2, none⟩ = some (.int .i64 (gw : Int)) ∧ W7.drew.cell? ⟨ob, 3, none⟩ = some (.int .i64 (gh : Int)) ∧ W7.drew.cell? ⟨ob, 4, none⟩ = some (.slice (some ⟨g1, 0, none⟩) n0 gcap) ∧ (∃ v, W7.drew.cell? ⟨g1, kk, none⟩ = some v) ∧ W7.drew.frozen? ⟨g1, kk, none⟩ = false := by
      obtain ⟨y0, y1, y2, y3, y4⟩ := Y7.out.cells
      exact ⟨y0, y1, y2, y3, y4, ⟨gv, hgv⟩, hgf⟩
    refine wp_region_held_drew (S := fun w' => w'.cell? ⟨ob, 0, none⟩ = some (.int .i64 C0) ∧ w'.cell? ⟨ob, 1, none⟩ = some (.int .i64 D0) ∧ w'.cell? ⟨ob, 2, none⟩ = some (.int .i64 (gw : Int)) ∧ w'.cell? ⟨ob, 3, none⟩ = some (.int .i64 (gh : Int)) ∧ w'.cell? ⟨ob, 4, none⟩ = some (.slice (some ⟨g1, 0, none⟩) n0 gcap) ∧ (∃ v, w'.cell? ⟨g1, kk, none⟩ = some v) ∧ w'.frozen? ⟨g1, kk, none⟩ = false) (by kernel_rfl) hS (fun _ => ?_)
    refine wpAnyH_take (i := 0) (v := .pointer (some ⟨ob, 2, none⟩)) rfl (by kernel_rfl) (by kernel_rfl) (by kernel_rfl) (fun _ _ _ h => h) (Or.inl ⟨by kernel_rfl, fun w9 hSw => ?_⟩) hS ?_
    · obtain ⟨s1, s2, s3, s4, s5, s6, s7⟩ := hSw
      go_simp
    change wpAnyH _ _ _ _ _ _ _ (Act.put _ (some 48) (.pointer (some ⟨ob, 2, none⟩))) _
    (try simp only [Act.put, List.setIfInBounds_toArray, List.set_cons_zero, List.set_cons_succ])
    refine wpAnyH_take (i := 1) (v := .pointer (some ⟨ob, 4, none⟩)) rfl (by kernel_rfl) (by kernel_rfl) (by kernel_rfl) (fun _ _ _ h => h) (Or.inl ⟨by kernel_rfl, fun w9 hSw => ?_⟩) hS ?_
    · obtain ⟨s1, s2, s3, s4, s5, s6, s7⟩ := hSw
      go_simp
    change wpAnyH _ _ _ _ _ _ _ (Act.put _ (some 49) (.pointer (some ⟨ob, 4, none⟩))) _
    (try simp only [Act.put, List.setIfInBounds_toArray, List.set_cons_zero, List.set_cons_succ])
    refine wpAnyH_take (i := 2) (v := .slice (some ⟨g1, 0, none⟩) n0 gcap) rfl (by kernel_rfl) (by kernel_rfl) (by kernel_rfl) (fun _ _ _ h => h) (Or.inl ⟨by kernel_rfl, fun w9 hSw => ?_⟩) hS ?_
    · obtain ⟨s1, s2, s3, s4, s5, s6, s7⟩ := hSw
      go_simp
    change wpAnyH _ _ _ _ _ _ _ (Act.put _ (some 50) (.slice (some ⟨g1, 0, none⟩) n0 gcap)) _
    (try simp only [Act.put, List.setIfInBounds_toArray, List.set_cons_zero, List.set_cons_succ])
    refine wpAnyH_take (i := 3) (v := .int .i64 a2) rfl (by kernel_rfl) (by kernel_rfl) (by kernel_rfl) (fun _ _ _ h => h) (Or.inl ⟨by kernel_rfl, fun w9 hSw => ?_⟩) hS ?_
    · obtain ⟨s1, s2, s3, s4, s5, s6, s7⟩ := hSw
      go_simp
    change wpAnyH _ _ _ _ _ _ _ (Act.put _ (some 51) (.int .i64 a2)) _
    (try simp only [Act.put, List.setIfInBounds_toArray, List.set_cons_zero, List.set_cons_succ])
    refine wpAnyH_take (i := 4) (v := .pointer (some ⟨ob, 2, none⟩)) rfl (by kernel_rfl) (by kernel_rfl) (by kernel_rfl) (fun _ _ _ h => h) (Or.inl ⟨by kernel_rfl, fun w9 hSw => ?_⟩) hS ?_
    · obtain ⟨s1, s2, s3, s4, s5, s6, s7⟩ := hSw
      go_simp
    change wpAnyH _ _ _ _ _ _ _ (Act.put _ (some 52) (.pointer (some ⟨ob, 2, none⟩))) _
    (try simp only [Act.put, List.setIfInBounds_toArray, List.set_cons_zero, List.set_cons_succ])
    refine wpAnyH_take (i := 5) (v := .pointer (some ⟨ob, 4, none⟩)) rfl (by kernel_rfl) (by kernel_rfl) (by kernel_rfl) (fun _ _ _ h => h) (Or.inl ⟨by kernel_rfl, fun w9 hSw => ?_⟩) hS ?_
    · obtain ⟨s1, s2, s3, s4, s5, s6, s7⟩ := hSw
      go_simp
    change wpAnyH _ _ _ _ _ _ _ (Act.put _ (some 53) (.pointer (some ⟨ob, 4, none⟩))) _
    (try simp only [Act.put, List.setIfInBounds_toArray, List.set_cons_zero, List.set_cons_succ])
    refine wpAnyH_take (i := 6) (v := .slice (some ⟨g1, 0, none⟩) n0 gcap) rfl (by kernel_rfl) (by kernel_rfl) (by kernel_rfl) (fun _ _ _ h => h) (Or.inl ⟨by kernel_rfl, fun w9 hSw => ?_⟩) hS ?_
    · obtain ⟨s1, s2, s3, s4, s5, s6, s7⟩ := hSw
      go_simp
    change wpAnyH _ _ _ _ _ _ _ (Act.put _ (some 54) (.slice (some ⟨g1, 0, none⟩) n0 gcap)) _
    (try simp only [Act.put, List.setIfInBounds_toArray, List.set_cons_zero, List.set_cons_succ])
    refine wpAnyH_take (i := 7) (v := .int .i64 (n0 : Int)) rfl (by kernel_rfl) (by kernel_rfl) (by kernel_rfl) (fun _ _ _ h => h) (Or.inl ⟨by kernel_rfl, fun w9 hSw => ?_⟩) hS ?_
    · obtain ⟨s1, s2, s3, s4, s5, s6, s7⟩ := hSw
      go_simp
    change wpAnyH _ _ _ _ _ _ _ (Act.put _ (some 55) (.int .i64 (n0 : Int))) _
    (try simp only [Act.put, List.setIfInBounds_toArray, List.set_cons_zero, List.set_cons_succ])
    refine wpAnyH_take (i := 9) (v := .int .u64 a3) rfl (by kernel_rfl) (by kernel_rfl) (by kernel_rfl) (fun _ _ _ h => h) (Or.inl ⟨by kernel_rfl, fun w9 hSw => ?_⟩) hS ?_
    · obtain ⟨s1, s2, s3, s4, s5, s6, s7⟩ := hSw
      go_simp
    change wpAnyH _ _ _ _ _ _ _ (Act.put _ (some 57) (.int .u64 a3)) _
    (try simp only [Act.put, List.setIfInBounds_toArray, List.set_cons_zero, List.set_cons_succ])
    refine wpAnyH_ready (rs := [8]) (by kernel_rfl) (by simp) ?_
    refine AllReadyH.cons rfl (fun K hK => ?_) AllReadyH.nil
    go_simp
    refine (HAR.out _).mono ?_
    rintro e v1 ⟨rfl, rfl⟩
    refine hK.out _ _ hS (fun _ => ?_)
    clear hK K
    (try simp only [Act.put, List.setIfInBounds_toArray, List.set_cons_zero, List.set_cons_succ])
    refine wpAnyH_take (i := 10) (v := .pointer (some ⟨g1, kk, none⟩)) rfl (by kernel_rfl) (by kernel_rfl) (by kernel_rfl) (fun _ _ _ h => h) (Or.inl ⟨by kernel_rfl, fun w9 hSw => ?_⟩) hS ?_
    · obtain ⟨s1, s2, s3, s4, s5, s6, s7⟩ := hSw
      go_simp
    change wpAnyH _ _ _ _ _ _ _ (Act.put _ (some 58) (.pointer (some ⟨g1, kk, none⟩))) _
    (try simp only [Act.put, List.setIfInBounds_toArray, List.set_cons_zero, List.set_cons_succ])
    refine wpAnyH_ready (rs := [11]) (by kernel_rfl) (by simp) ?_
    refine AllReadyH.cons rfl (fun K hK => ?_) AllReadyH.nil
    have hgv' : W7.drew.cell? ⟨g1, kk, none⟩ = some gv := hgv
    have hgf' : W7.drew.frozen? ⟨g1, kk, none⟩ = false := hgf
    go_simp
    have hbd := (Below.refl W7.heap.size W7).drew
    have hng1 : ∀ q, (⟨g1, q, none⟩ : Addr).block ≠ mb := fun q => by show g1 ≠ mb; omega
    have hng2 : ∀ q, (⟨g1, q, none⟩ : Addr).block ≠ ob := fun q => by show g1 ≠ ob; omega
    have hng3 : ∀ y, (some (⟨p0, o0, none⟩ : Addr)) = some y → y.block ≠ g1 := fun y e => by cases e; show p0 ≠ g1; omega
    have X8 := Lib.hid ((X7.out.later hbd).far (hng1 kk) (.int .u64 a3))
    have Y8 := Lib.hid ((Y7.out.later hbd).far (hng2 kk) (.int .u64 a3))
    have S8 := Lib.hid (Im.slk_put (k := kk) (v := .int .u64 a3) (S7.out.below hbd) hng3)
    have T8 := Lib.hid (rws_set (T7.out.below hbd) hkn (p := a3))
    have B8 := Lib.hid ((bel_step B7.out hbd).setCell (p := ⟨g1, kk, none⟩) (by show w.heap.size ≤ g1; omega) (.int .u64 a3))
    have hfr8 : (W7.drew.setCell ⟨g1, kk, none⟩ (.int .u64 a3)).frozen? ⟨g1, kk, none⟩ = false := by rw [World.frozen?_setCell]; exact hgf
    have hcl8 : ∃ v, (W7.drew.setCell ⟨g1, kk, none⟩ (.int .u64 a3)).cell? ⟨g1, kk, none⟩ = some v := by
      obtain ⟨q1, q2, qe, hq⟩ := slk_pos T8.out (by omega)
      injection qe with qe
      injection qe with qe1 qe2 _
      subst qe1
      subst qe2
      have := hq kk hkn
      rw [Nat.zero_add] at this
      exact ⟨_, this⟩
    have hy8 := Y8.out.cells
    refine hK.out _ _ ⟨hy8.1, hy8.2.1, hy8.2.2.1, hy8.2.2.2.1, hy8.2.2.2.2, hcl8, hfr8⟩ (fun _ => ?_)
    clear hK K hS hgv' hgf' hbd hng1 hng2 hng3 hfr8 hcl8 hy8
    refine wpAnyH_done (by kernel_rfl) ?_ _
    obtain ⟨W8, hW8⟩ : ∃ W8, (W7.setCell ⟨g1, kk, none⟩ (.int .u64 a3)).drew = W8 := ⟨_, rfl⟩
    rw [show W7.drew.setCell ⟨g1, kk, none⟩ (.int .u64 a3) = (W7.setCell ⟨g1, kk, none⟩ (.int .u64 a3)).drew from rfl, hW8] at X8 Y8 S8 T8 B8
    try rw [hW8]
    clear hW8 hgv hgf HAR X7 Y7 S7 T7 B7 HFR
    obtain ⟨x0, x1, x2, x3, x4⟩ := X8.out.cells
    obtain ⟨y0, y1, y2, y3, y4⟩ := Y8.out.cells
    go_upto_region 9 with fail
    have hbV := box1 W8 (.cells #[.int .i64 C0, .int .i64 D0, .int .i64 (gw : Int), .int .i64 (gh : Int), .slice (some ⟨p0, o0, none⟩) n0 cp0, .int .i64 C0, .int .i64 D0, .int .i64 (gw : Int), .int .i64 (gh : Int), .slice (some ⟨g1, 0, none⟩) n0 gcap] 33)
    have hKb : (W8.alloc (.cells #[.int .i64 C0, .int .i64 D0, .int .i64 (gw : Int), .int .i64 (gh : Int), .slice (some ⟨p0, o0, none⟩) n0 cp0, .int .i64 C0, .int .i64 D0, .int .i64 (gw : Int), .int .i64 (gh : Int), .slice (some ⟨g1, 0, none⟩) n0 gcap] 33)).heap[W8.heap.size]? = some (.cells #[.int .i64 C0, .int .i64 D0, .int .i64 (gw : Int), .int .i64 (gh : Int), .slice (some ⟨p0, o0, none⟩) n0 cp0, .int .i64 C0, .int .i64 D0, .int .i64 (gw : Int), .int .i64 (gh : Int), .slice (some ⟨g1, 0, none⟩) n0 gcap] 33) := heapNew _ _
    obtain ⟨V, hV⟩ : ∃ V, W8.alloc (.cells #[.int .i64 C0, .int .i64 D0, .int .i64 (gw : Int), .int .i64 (gh : Int), .slice (some ⟨p0, o0, none⟩) n0 cp0, .int .i64 C0, .int .i64 D0, .int .i64 (gw : Int), .int .i64 (gh : Int), .slice (some ⟨g1, 0, none⟩) n0 gcap] 33) = V := ⟨_, rfl⟩
    rw [hV] at hbV hKb
    try rw [hV]
    obtain ⟨lb, hlb⟩ : ∃ lb, W8.heap.size = lb := ⟨_, rfl⟩
    rw [hlb] at hKb
    try rw [hlb]
    have HKb := Lib.hid hKb
    have XM := Lib.hid (X8.out.later hbV)
    have SMv := Lib.hid (S8.out.below hbV)
    have SOv := Lib.hid (T8.out.below hbV)
    have HBV := Lib.hid (bel_step B8.out hbV)
    have HU0 := Lib.hid (Im.good_u HGP0.out)
    have HU1 := Lib.hid (Im.u_set (Im.good_u HGP0.out) IU3.out kk)
    have hn03 : n0 = gw * gh := by rw [← HN0.out]; exact HGL.out
    have HN3 := Lib.hid hn03
    clear x0 x1 x2 x3 x4 y0 y1 y2 y3 y4 hbV hKb hV hlb X8 Y8 S8 T8 B8 hn03
    go_wp2_with fail
    go_loopw [12] (fun s12 wr => ∃ i : Nat, i ≤ 2 ∧ s12 = .int .i64 i ∧ Below V.heap.size V wr) (fun s12 _ => 2 - (intOf s12).toNat)
    case atStart => exact ⟨0, by omega, rfl, Below.refl _ _⟩
    case round =>
      obtain ⟨i, hi2, rfl, hb⟩ := hrel
      have HBi := Lib.hid hb
      clear hb
      by_cases hit : i < 2
      · have hitI : (i : Int) < 2 := by omega
        have hi0 : (0 : Int) ≤ (i : Int) := Int.natCast_nonneg _
        obtain ⟨pb, po, cp, X, hcl, hsx, hxu, hxl, hcp1, hcp2⟩ : ∃ (pb po cp : Nat) (X : List Int), (∀ W', Below V.heap.size V W' → W'.cell? ⟨lb, i * 5, none⟩ = some (.int .i64 C0) ∧ W'.cell? ⟨lb, i * 5 + 1, none⟩ = some (.int .i64 D0) ∧ W'.cell? ⟨lb, i * 5 + 2, none⟩ = some (.int .i64 (gw : Int)) ∧ W'.cell? ⟨lb, i * 5 + 3, none⟩ = some (.int .i64 (gh : Int)) ∧ W'.cell? ⟨lb, i * 5 + 4, none⟩ = some (.slice (some ⟨pb, po, none⟩) n0 cp)) ∧ (∀ W', Below V.heap.size V W' → SlK .u64 W' (some ⟨pb, po, none⟩) n0 X) ∧ (∀ x ∈ X, Pq.Px.U x) ∧ X.length = n0 ∧ n0 ≤ cp ∧ cp ≤ 9223372036854775807 := by
          have : i = 0 ∨ i = 1 := by omega
          rcases this with rfl | rfl
          · exact ⟨p0, o0, cp0, gs0, fun W' hw => by
              have h8 : W'.heap[lb]? = _ := (hw.block _ (Array.getElem?_eq_some_iff.1 HKb.out).1).trans HKb.out
              refine ⟨?_, ?_, ?_, ?_, ?_⟩ <;> simp [World.cell?, h8], fun W' hw => SMv.out.below hw, HU0.out, HN0.out, hc0, hd0⟩
          · exact ⟨g1, 0, gcap, gs0.set kk a3, fun W' hw => by
              have h8 : W'.heap[lb]? = _ := (hw.block _ (Array.getElem?_eq_some_iff.1 HKb.out).1).trans HKb.out
              refine ⟨?_, ?_, ?_, ?_, ?_⟩ <;> simp [World.cell?, h8], fun W' hw => SOv.out.below hw, HU1.out, by rw [List.length_set]; exact HN0.out, hle, hc9⟩
        have HCL := Lib.hid hcl
        have HSX := Lib.hid hsx
        have HXU := Lib.hid hxu
        have HXL := Lib.hid hxl
        clear hcl hsx hxu hxl
        have hn09 : n0 ≤ 9223372036854775807 := by omega
        have QO : Hid (∀ W2, Calls Tryz.prog 13 #[.agg #[.int .i64 C0, .int .i64 D0, .int .i64 (gw : Int), .int .i64 (gh : Int), .slice (some ⟨pb, po, none⟩) n0 cp]] W2 fun e w' => e = .returned (.agg #[.int .i64 C0, .int .i64 D0, .int .i64 (gw : Int), .int .i64 (gh : Int), .slice (some ⟨pb, po, none⟩) n0 cp]) ∧ Below W2.heap.size W2 w') := Lib.hid fun W2 => imOf_any _ _ _ _ _ _ _ _
        have QM1 := Lib.hid (fun (W' : World) (hw : Below V.heap.size V W') => imMay_any C0 D0 (gw : Int) (gh : Int) (some ⟨pb, po, none⟩) n0 cp X hn09 HXU.out W' (HSX.out W' hw))
        have QM2 := Lib.hid (fun (W' : World) (hw : Below V.heap.size V W') => refImMay_any C0 D0 (gw : Int) (gh : Int) (some ⟨pb, po, none⟩) n0 cp X hn09 HXU.out W' (HSX.out W' hw))
        obtain ⟨mv, hmv⟩ : ∃ b, Im.mayV C0 D0 (gw : Int) (gh : Int) n0 X = b := ⟨_, rfl⟩
        rw [hmv] at QM1 QM2
        unfold agI at QM1 QM2
        have emm : (mv != mv) = false := by simp
        clear hmv
        go_upto_region 12 with fail
        have hS : wr.drew.cell? ⟨lb, i * 5, none⟩ = some (.int .i64 C0) ∧ wr.drew.cell? ⟨lb, i * 5 + 1, none⟩ = some (.int .i64 D0) ∧ wr.drew.cell? ⟨lb, i * 5 + 2, none⟩ = some (.int .i64 (gw : Int)) ∧ wr.drew.cell? ⟨lb, i * 5 + 3, none⟩ = some (.int .i64 (gh : Int)) ∧ wr.drew.cell? ⟨lb, i * 5 + 4, none⟩ = some (.slice (some ⟨pb, po, none⟩) n0 cp) := HCL.out _ (bel_step HBi.out (Below.refl _ _).drew)
        refine wp_region_held_drew (S := fun w' => w'.cell? ⟨lb, i * 5, none⟩ = some (.int .i64 C0) ∧ w'.cell? ⟨lb, i * 5 + 1, none⟩ = some (.int .i64 D0) ∧ w'.cell? ⟨lb, i * 5 + 2, none⟩ = some (.int .i64 (gw : Int)) ∧ w'.cell? ⟨lb, i * 5 + 3, none⟩ = some (.int .i64 (gh : Int)) ∧ w'.cell? ⟨lb, i * 5 + 4, none⟩ = some (.slice (some ⟨pb, po, none⟩) n0 cp)) (by kernel_rfl) hS (fun _ => ?_)
        refine wpAnyH_take (i := 0) (v := .slice (some ⟨lb, 0, none⟩) 2 2) rfl (by kernel_rfl) (by kernel_rfl) (by kernel_rfl) (fun _ _ _ h => h) (Or.inl ⟨by kernel_rfl, fun w9 hSw => ?_⟩) hS ?_
        · obtain ⟨s1, s2, s3, s4, s5⟩ := hSw
          go_simp
        change wpAnyH _ _ _ _ _ _ _ (Act.put _ (some 66) (.slice (some ⟨lb, 0, none⟩) 2 2)) _
        (try simp only [Act.put, List.setIfInBounds_toArray, List.set_cons_zero, List.set_cons_succ])
        refine wpAnyH_take (i := 1) (v := .int .i64 (i : Int)) rfl (by kernel_rfl) (by kernel_rfl) (by kernel_rfl) (fun _ _ _ h => h) (Or.inl ⟨by kernel_rfl, fun w9 hSw => ?_⟩) hS ?_
        · obtain ⟨s1, s2, s3, s4, s5⟩ := hSw
          go_simp
        change wpAnyH _ _ _ _ _ _ _ (Act.put _ (some 67) (.int .i64 (i : Int))) _
        (try simp only [Act.put, List.setIfInBounds_toArray, List.set_cons_zero, List.set_cons_succ])
        refine wpAnyH_take (i := 2) (v := .pointer (some ⟨lb, i * 5, none⟩)) rfl (by kernel_rfl) (by kernel_rfl) (by kernel_rfl) (fun _ _ _ h => h) (Or.inl ⟨by kernel_rfl, fun w9 hSw => ?_⟩) hS ?_
        · obtain ⟨s1, s2, s3, s4, s5⟩ := hSw
          go_simp
        change wpAnyH _ _ _ _ _ _ _ (Act.put _ (some 68) (.pointer (some ⟨lb, i * 5, none⟩))) _
        (try simp only [Act.put, List.setIfInBounds_toArray, List.set_cons_zero, List.set_cons_succ])
        refine wpAnyH_take (i := 3) (v := .agg #[.int .i64 C0, .int .i64 D0, .int .i64 (gw : Int), .int .i64 (gh : Int), .slice (some ⟨pb, po, none⟩) n0 cp]) rfl (by kernel_rfl) (by kernel_rfl) (by kernel_rfl) (fun _ _ _ h => h) (Or.inl ⟨by kernel_rfl, fun w9 hSw => ?_⟩) hS ?_
        · obtain ⟨s1, s2, s3, s4, s5⟩ := hSw
          go_simp
        change wpAnyH _ _ _ _ _ _ _ (Act.put _ (some 69) (.agg #[.int .i64 C0, .int .i64 D0, .int .i64 (gw : Int), .int .i64 (gh : Int), .slice (some ⟨pb, po, none⟩) n0 cp])) _
        (try simp only [Act.put, List.setIfInBounds_toArray, List.set_cons_zero, List.set_cons_succ])
        refine wpAnyH_take (i := 6) (v := .slice (some ⟨lb, 0, none⟩) 2 2) rfl (by kernel_rfl) (by kernel_rfl) (by kernel_rfl) (fun _ _ _ h => h) (Or.inl ⟨by kernel_rfl, fun w9 hSw => ?_⟩) hS ?_
        · obtain ⟨s1, s2, s3, s4, s5⟩ := hSw
          go_simp
        change wpAnyH _ _ _ _ _ _ _ (Act.put _ (some 72) (.slice (some ⟨lb, 0, none⟩) 2 2)) _
        (try simp only [Act.put, List.setIfInBounds_toArray, List.set_cons_zero, List.set_cons_succ])
        refine wpAnyH_take (i := 7) (v := .int .i64 (i : Int)) rfl (by kernel_rfl) (by kernel_rfl) (by kernel_rfl) (fun _ _ _ h => h) (Or.inl ⟨by kernel_rfl, fun w9 hSw => ?_⟩) hS ?_
        · obtain ⟨s1, s2, s3, s4, s5⟩ := hSw
          go_simp
        change wpAnyH _ _ _ _ _ _ _ (Act.put _ (some 73) (.int .i64 (i : Int))) _
        (try simp only [Act.put, List.setIfInBounds_toArray, List.set_cons_zero, List.set_cons_succ])
        refine wpAnyH_take (i := 8) (v := .pointer (some ⟨lb, i * 5, none⟩)) rfl (by kernel_rfl) (by kernel_rfl) (by kernel_rfl) (fun _ _ _ h => h) (Or.inl ⟨by kernel_rfl, fun w9 hSw => ?_⟩) hS ?_
        · obtain ⟨s1, s2, s3, s4, s5⟩ := hSw
          go_simp
        change wpAnyH _ _ _ _ _ _ _ (Act.put _ (some 74) (.pointer (some ⟨lb, i * 5, none⟩))) _
        (try simp only [Act.put, List.setIfInBounds_toArray, List.set_cons_zero, List.set_cons_succ])
        refine wpAnyH_take (i := 9) (v := .agg #[.int .i64 C0, .int .i64 D0, .int .i64 (gw : Int), .int .i64 (gh : Int), .slice (some ⟨pb, po, none⟩) n0 cp]) rfl (by kernel_rfl) (by kernel_rfl) (by kernel_rfl) (fun _ _ _ h => h) (Or.inl ⟨by kernel_rfl, fun w9 hSw => ?_⟩) hS ?_
        · obtain ⟨s1, s2, s3, s4, s5⟩ := hSw
          go_simp
        change wpAnyH _ _ _ _ _ _ _ (Act.put _ (some 75) (.agg #[.int .i64 C0, .int .i64 D0, .int .i64 (gw : Int), .int .i64 (gh : Int), .slice (some ⟨pb, po, none⟩) n0 cp])) _
        (try simp only [Act.put, List.setIfInBounds_toArray, List.set_cons_zero, List.set_cons_succ])
        refine wpAnyH_ready (rs := [4]) (by kernel_rfl) (by simp) ?_
        refine AllReadyH.cons rfl (fun K hK => ?_) AllReadyH.nil
        go_simp
        refine (QO.out _).mono ?_
        rintro e v1 ⟨rfl, hbb⟩
        have HY1 := Lib.hid (bel_undW hbb)
        have hS2 := HCL.out _ (bel_step HBi.out HY1.out)
        clear hS hbb
        have hS := hS2
        clear hS2
        refine hK.out _ _ hS (fun _ => ?_)
        clear hK K
        (try simp only [Act.put, List.setIfInBounds_toArray, List.set_cons_zero, List.set_cons_succ])
        refine wpAnyH_ready (rs := [5]) (by kernel_rfl) (by simp) ?_
        refine AllReadyH.cons rfl (fun K hK => ?_) AllReadyH.nil
        go_simp
        refine (QM1.out _ (bel_step HBi.out HY1.out)).mono ?_
        rintro e v2 ⟨rfl, hbb⟩
        have HY2 := Lib.hid (bel_step HY1.out hbb)
        have hS2 := HCL.out _ (bel_step HBi.out HY2.out)
        clear hS hbb
        have hS := hS2
        clear hS2
        refine hK.out _ _ hS (fun _ => ?_)
        clear hK K
        (try simp only [Act.put, List.setIfInBounds_toArray, List.set_cons_zero, List.set_cons_succ])
        refine wpAnyH_ready (rs := [10]) (by kernel_rfl) (by simp) ?_
        refine AllReadyH.cons rfl (fun K hK => ?_) AllReadyH.nil
        go_simp
        refine (QM2.out _ (bel_step HBi.out HY2.out)).mono ?_
        rintro e v3 ⟨rfl, hbb⟩
        have HY3 := Lib.hid (bel_step HY2.out hbb)
        have hS2 := HCL.out _ (bel_step HBi.out HY3.out)
        clear hS hbb
        have hS := hS2
        clear hS2
        refine hK.out _ _ hS (fun _ => ?_)
        clear hK K
        (try simp only [Act.put, List.setIfInBounds_toArray, List.set_cons_zero, List.set_cons_succ])
        refine wpAnyH_take (i := 11) (v := .bool false) rfl (by kernel_rfl) (by kernel_rfl) (by kernel_rfl) (fun _ _ _ h => h) (Or.inl ⟨by kernel_rfl, fun w9 hSw => ?_⟩) hS ?_
        · obtain ⟨s1, s2, s3, s4, s5⟩ := hSw
          go_simp
        change wpAnyH _ _ _ _ _ _ _ (Act.put _ (some 77) (.bool false)) _
        (try simp only [Act.put, List.setIfInBounds_toArray, List.set_cons_zero, List.set_cons_succ])
        refine wpAnyH_done (by kernel_rfl) ?_ _
        (try simp only [Act.put, List.setIfInBounds_toArray, List.set_cons_zero, List.set_cons_succ])
        clear hS
        go_wp2_with fail
        go_loopw [13] (fun s13 wk => ∃ k : Nat, k ≤ 8 ∧ s13 = .int .i64 k ∧ Below V.heap.size V wk) (fun s13 _ => 8 - (intOf s13).toNat)
        case atStart => exact ⟨0, by omega, rfl, bel_step HBi.out HY3.out⟩
        case round =>
          obtain ⟨k, hk8, rfl, hb⟩ := hrel
          have HBk := Lib.hid hb
          clear hb
          by_cases hkt : k < 8
          · have hktI : (k : Int) < 8 := by omega
            have hk0 : (0 : Int) ≤ (k : Int) := Int.natCast_nonneg _
            go_upto_if 84 with fail
            go_cut [14] from 78 to 194 (fun s14 wx => wr = wx ∧ ∃ v, s14 = .int .i64 v ∧ Nu.I v)
            case first =>
              by_cases h7 : (k : Int) = 7
              · have e7 : ((k : Int) == 7) = true := by simp [h7]
                go_wp2_with fail
                go_meet
                case rel => exact ⟨rfl, a1, rfl, IA1.out⟩
              · have e7 : ((k : Int) == 7) = false := by rw [beq_eq_false_iff_ne]; exact h7
                go_wp2_with fail
                go_meet
                case rel => exact ⟨rfl, (k : Int), rfl, by unfold Nu.I; omega⟩
            case rest =>
              obtain ⟨rfl, kd, rfl, hkd⟩ := hcut
              have HWa := Lib.hid (fun (W' : World) (hw : Below V.heap.size V W') => imWrite_any C0 D0 kd gw gh HCI.out HMI.out hkd pb po n0 cp X (by have := HW9.out; omega) HW9.out.2 (by omega) hn01 HN3.out hcp1 hcp2 HXU.out W' (HSX.out W' hw))
              have HWb := Lib.hid (fun (W' : World) (hw : Below V.heap.size V W') => refImWrite_any C0 D0 kd gw gh HCI.out HMI.out (some ⟨pb, po, none⟩) n0 cp X (by omega) HN3.out HXU.out W' (HSX.out W' hw))
              have HHd := Lib.hid (fun (W' : World) (hw : Below V.heap.size V W') => imHead_any C0 D0 (gw : Int) (gh : Int) HCI.out HMI.out (by have := HW9.out; unfold Nu.I; omega) (by have := HW9.out; unfold Nu.I; omega) (some ⟨pb, po, none⟩) n0 cp X hn09 HXU.out kd hkd W' (HSX.out W' hw))
              unfold ImWrS agI at HWa
              unfold ImWrR agI at HWb
              unfold ImHeadR agI at HHd
              obtain ⟨c0, c1, c2, c3, c4⟩ := HCL.out _ HBk.out
              rcases Im.wr_facts (c := C0) (m := D0) (kd := kd) (n := n0) HXU.out (by rw [HXL.out]; exact HN3.out) HW9.out.1 HW9.out.2 with ⟨f1, f2⟩ | ⟨bs, u, f1, f2, f3, f4, f5⟩
              · rw [f1] at HWa HWb
                rw [f2] at HHd
                simp only [List.length_nil] at HWa HWb
                unfold agH Hd.none at HHd
                simp only at HHd
                clear f1 f2
                go_upto_region 21 with (first
                  | (go_at_call 13; refine (QO.out _).mono ?_; rintro e u1 ⟨rfl, hb9⟩; have HU1' := Lib.hid (bel_step HBk.out hb9); clear hb9)
                  | (go_at_call 15; refine (HWa.out _ HU1'.out).mono ?_; rintro e u2 ⟨wa, wac, rfl, hsa, hb9⟩; have HSA2 := Lib.hid hsa.1; have HSC := Lib.hid hsa.2; have HU2 := Lib.hid (bel_step HU1'.out hb9); clear hsa hb9))
                clear c0 c1 c2 c3 c4
                obtain ⟨c0, c1, c2, c3, c4⟩ := HCL.out _ HU2.out
                go_upto_region 22 with (go_at_call 16; refine (HWb.out _ HU2.out).mono ?_; rintro e u3 ⟨wb, wbc, rfl, hsb, hb9⟩; have HSB3 := Lib.hid hsb.1; have HU3' := Lib.hid (bel_step HU2.out hb9); have HSA3 := Lib.hid (HSA2.out.below hb9); clear hsb hb9)
                clear c0 c1 c2 c3 c4
                obtain ⟨c0, c1, c2, c3, c4⟩ := HCL.out _ HU3'.out
                go_upto_region 23 with (first
                  | (go_at_call 13; refine (QO.out _).mono ?_; rintro e u4 ⟨rfl, hb9⟩; have HU4 := Lib.hid (bel_step HU3'.out hb9); have HU4a := Lib.hid hb9; clear hb9)
                  | (go_at_call 17; refine (HHd.out _ HU4.out).mono ?_; rintro e u5 ⟨rfl, hb9⟩; have HU5 := Lib.hid (bel_step HU4.out hb9); have HU5a := Lib.hid (bel_step HU4a.out hb9); clear hb9))
                clear c0 c1 c2 c3 c4
                have hHb := heap_new10 u5 (.cells #[.int .i64 0, .int .i64 0, .int .i64 0, .int .i64 0] 49)
                have hbh := box1 u5 (.cells #[.int .i64 0, .int .i64 0, .int .i64 0, .int .i64 0] 49)
                obtain ⟨W8k, hW8⟩ : ∃ W8k, u5.alloc (.cells #[.int .i64 0, .int .i64 0, .int .i64 0, .int .i64 0] 49) = W8k := ⟨_, rfl⟩
                rw [hW8] at hHb hbh
                try rw [hW8]
                obtain ⟨hb0, hhb⟩ : ∃ hb0, u5.heap.size = hb0 := ⟨_, rfl⟩
                rw [hhb] at hHb
                try rw [hhb]
                have HV8 := Lib.hid (bel_step HU5.out hbh)
                have HSA := Lib.hid (HSA3.out.below (bel_step HU5a.out hbh))
                have HSB := Lib.hid (HSB3.out.below (bel_step HU5a.out hbh))
                have k0 : W8k.cell? ⟨hb0, 0, none⟩ = some (.int .i64 0) := by simp [World.cell?, hHb]
                have k1 : W8k.cell? ⟨hb0, 1, none⟩ = some (.int .i64 0) := by simp [World.cell?, hHb]
                have k2 : W8k.cell? ⟨hb0, 2, none⟩ = some (.int .i64 0) := by simp [World.cell?, hHb]
                have k3 : W8k.cell? ⟨hb0, 3, none⟩ = some (.int .i64 0) := by simp [World.cell?, hHb]
                clear hHb hbh hW8 hhb
                have hca : (convert 43 9 (.slice wa 0 wac)).run Tryz.prog W8k = .ok (.string (strOfNums [])) W8k := Cv.conv_slk HSA.out
                have hcb : (convert 43 9 (.slice wb 0 wbc)).run Tryz.prog W8k = .ok (.string (strOfNums [])) W8k := Cv.conv_slk HSB.out
                obtain ⟨T, hT⟩ : ∃ T, strOfNums [] = T := ⟨_, rfl⟩
                rw [hT] at hca hcb
                have eTT : (!(T.toList == T.toList)) = false := by simp
                obtain ⟨b0, b1, b2, b3, b4⟩ := (XM.out.later HV8.out).cells
                clear hT
                go_wp2_with fail
                go_roundw
                case rel => exact ⟨k + 1, by omega, by go_num, HV8.out⟩
                case measure => simp [intOf]; omega
              · rw [f1] at HWa HWb
                rw [f5] at HHd
                have HPV := Lib.hid f2
                have HBY := Lib.hid f3
                obtain ⟨nb, hnb⟩ : ∃ n, bs.length = n := ⟨_, rfl⟩
                rw [hnb] at f4
                simp only [hnb] at HWa HWb
                have HNB := Lib.hid hnb
                unfold agH at HHd
                simp only at HHd
                clear f1 f2 f3 f5 hnb
                go_upto_region 21 with (first
                  | (go_at_call 13; refine (QO.out _).mono ?_; rintro e u1 ⟨rfl, hb9⟩; have HU1' := Lib.hid (bel_step HBk.out hb9); clear hb9)
                  | (go_at_call 15; refine (HWa.out _ HU1'.out).mono ?_; rintro e u2 ⟨wa, wac, rfl, hsa, hb9⟩; have HSA2 := Lib.hid hsa.1; have HSC := Lib.hid hsa.2; have HU2 := Lib.hid (bel_step HU1'.out hb9); clear hsa hb9))
                clear c0 c1 c2 c3 c4
                obtain ⟨c0, c1, c2, c3, c4⟩ := HCL.out _ HU2.out
                go_upto_region 22 with (go_at_call 16; refine (HWb.out _ HU2.out).mono ?_; rintro e u3 ⟨wb, wbc, rfl, hsb, hb9⟩; have HSB3 := Lib.hid hsb.1; have HU3' := Lib.hid (bel_step HU2.out hb9); have HSA3 := Lib.hid (HSA2.out.below hb9); clear hsb hb9)
                clear c0 c1 c2 c3 c4
                obtain ⟨c0, c1, c2, c3, c4⟩ := HCL.out _ HU3'.out
                go_upto_region 23 with (first
                  | (go_at_call 13; refine (QO.out _).mono ?_; rintro e u4 ⟨rfl, hb9⟩; have HU4 := Lib.hid (bel_step HU3'.out hb9); have HU4a := Lib.hid hb9; clear hb9)
                  | (go_at_call 17; refine (HHd.out _ HU4.out).mono ?_; rintro e u5 ⟨rfl, hb9⟩; have HU5 := Lib.hid (bel_step HU4.out hb9); have HU5a := Lib.hid (bel_step HU4a.out hb9); clear hb9))
                clear c0 c1 c2 c3 c4
                have hHb := heap_new10 u5 (.cells #[.int .i64 kd, .int .i64 (gw : Int), .int .i64 (gh : Int), .int .i64 D0] 49)
                have hbh := box1 u5 (.cells #[.int .i64 kd, .int .i64 (gw : Int), .int .i64 (gh : Int), .int .i64 D0] 49)
                obtain ⟨W8k, hW8⟩ : ∃ W8k, u5.alloc (.cells #[.int .i64 kd, .int .i64 (gw : Int), .int .i64 (gh : Int), .int .i64 D0] 49) = W8k := ⟨_, rfl⟩
                rw [hW8] at hHb hbh
                try rw [hW8]
                obtain ⟨hb0, hhb⟩ : ∃ hb0, u5.heap.size = hb0 := ⟨_, rfl⟩
                rw [hhb] at hHb
                try rw [hhb]
                have HV8 := Lib.hid (bel_step HU5.out hbh)
                have HSA := Lib.hid (HSA3.out.below (bel_step HU5a.out hbh))
                have HSB := Lib.hid (HSB3.out.below (bel_step HU5a.out hbh))
                have k0 : W8k.cell? ⟨hb0, 0, none⟩ = some (.int .i64 kd) := by simp [World.cell?, hHb]
                have k1 : W8k.cell? ⟨hb0, 1, none⟩ = some (.int .i64 (gw : Int)) := by simp [World.cell?, hHb]
                have k2 : W8k.cell? ⟨hb0, 2, none⟩ = some (.int .i64 (gh : Int)) := by simp [World.cell?, hHb]
                have k3 : W8k.cell? ⟨hb0, 3, none⟩ = some (.int .i64 D0) := by simp [World.cell?, hHb]
                clear hHb hbh hW8 hhb
                have hca : (convert 43 9 (.slice wa nb wac)).run Tryz.prog W8k = .ok (.string (strOfNums bs)) W8k := Cv.conv_slk HSA.out
                have hcb : (convert 43 9 (.slice wb nb wbc)).run Tryz.prog W8k = .ok (.string (strOfNums bs)) W8k := Cv.conv_slk HSB.out
                obtain ⟨T, hT⟩ : ∃ T, strOfNums bs = T := ⟨_, rfl⟩
                rw [hT] at hca hcb
                have eTT : (!(T.toList == T.toList)) = false := by simp
                have ekk : (kd != kd) = false := by simp
                have eww : ((gw : Int) != (gw : Int)) = false := by simp
                have ehh : ((gh : Int) != (gh : Int)) = false := by simp
                have edd : (D0 != D0) = false := by simp
                obtain ⟨b0, b1, b2, b3, b4⟩ := (XM.out.later HV8.out).cells
                clear hT
                have HPA := Lib.hid (fun (W' : World) (hw : Below W8k.heap.size W8k W') => imParse_any wa nb wac bs f4 4096 65536 65535 W' ⟨HSA.out.below hw, HSC.out.1, HSC.out.2, HBY.out⟩)
                rw [HPV.out] at HPA
                unfold ImParR agI at HPA
                simp only [HXL.out] at HPA
                go_upto_region 27 with (first
                  | (go_at_call 19; refine (hall_any _).mono ?_; rintro e u7 ⟨rfl, hb9⟩; have HU7 := Lib.hid hb9; clear hb9)
                  | (go_at_call 18; refine (HPA.out _ HU7.out).mono ?_; rintro e u8 ⟨ra, rc, rfl, hrs, hb9⟩; have HRS := Lib.hid hrs; have HU8 := Lib.hid (bel_step HU7.out hb9); clear hrs hb9))
                obtain ⟨rb, ro, rfl, hrc⟩ := slk_pos HRS.out (by omega)
                clear b0 b1 b2 b3 b4 hca hcb hrc
                have XB := Ib.new u8 40 C0 D0 (gw : Int) (gh : Int) (.slice (some ⟨rb, ro, none⟩) n0 rc)
                have hbk := box1 u8 (.cells #[.int .i64 C0, .int .i64 D0, .int .i64 (gw : Int), .int .i64 (gh : Int), .slice (some ⟨rb, ro, none⟩) n0 rc] 40)
                obtain ⟨W9, hW9⟩ : ∃ W9, u8.alloc (.cells #[.int .i64 C0, .int .i64 D0, .int .i64 (gw : Int), .int .i64 (gh : Int), .slice (some ⟨rb, ro, none⟩) n0 rc] 40) = W9 := ⟨_, rfl⟩
                rw [hW9] at XB hbk
                try rw [hW9]
                obtain ⟨kb, hkb⟩ : ∃ kb, u8.heap.size = kb := ⟨_, rfl⟩
                rw [hkb] at XB
                try rw [hkb]
                have XK := Lib.hid XB
                have HRK := Lib.hid (HRS.out.below hbk)
                have HV9 := Lib.hid (bel_step HV8.out (bel_step HU8.out hbk))
                clear XB hbk hW9 hkb
                have QA : Hid (∀ W2, Calls Tryz.prog 21 #[.agg #[.int .i64 C0, .int .i64 D0, .int .i64 (gw : Int), .int .i64 (gh : Int), .slice (some ⟨rb, ro, none⟩) n0 rc]] W2 fun e w' => e = .returned (.agg #[.int .i64 C0, .int .i64 D0, .int .i64 (gw : Int), .int .i64 (gh : Int), .slice (some ⟨rb, ro, none⟩) n0 rc]) ∧ Below W2.heap.size W2 w') := Lib.hid fun W2 => imAs_any _ _ _ _ _ _ _ _
                have QS1 : Hid (∀ W2, Below W9.heap.size W9 W2 → Calls Tryz.prog 20 #[.agg #[.int .i64 C0, .int .i64 D0, .int .i64 (gw : Int), .int .i64 (gh : Int), .slice (some ⟨rb, ro, none⟩) n0 rc], .agg #[.int .i64 C0, .int .i64 D0, .int .i64 (gw : Int), .int .i64 (gh : Int), .slice (some ⟨pb, po, none⟩) n0 cp]] W2 fun e w' => e = .returned (.bool true) ∧ Below W2.heap.size W2 w') := Lib.hid fun W2 hw => by
                  have := refImSame_any C0 D0 (gw : Int) (gh : Int) C0 D0 (gw : Int) (gh : Int) (some ⟨rb, ro, none⟩) (some ⟨pb, po, none⟩) n0 n0 rc cp X X W2 hn09 (HRK.out.below hw) (HSX.out _ (bel_step HV9.out hw))
                  rw [Im.same_self] at this
                  exact this
                have QS2 : Hid (∀ W2, Below W9.heap.size W9 W2 → Calls Tryz.prog 22 #[.agg #[.int .i64 C0, .int .i64 D0, .int .i64 (gw : Int), .int .i64 (gh : Int), .slice (some ⟨rb, ro, none⟩) n0 rc], .agg #[.int .i64 C0, .int .i64 D0, .int .i64 (gw : Int), .int .i64 (gh : Int), .slice (some ⟨pb, po, none⟩) n0 cp]] W2 fun e w' => e = .returned (.bool true) ∧ Below W2.heap.size W2 w') := Lib.hid fun W2 hw => by
                  have := imSame_any C0 D0 (gw : Int) (gh : Int) C0 D0 (gw : Int) (gh : Int) (some ⟨rb, ro, none⟩) (some ⟨pb, po, none⟩) n0 n0 rc cp X X W2 hn09 (HRK.out.below hw) (HSX.out _ (bel_step HV9.out hw))
                  rw [Im.same_self] at this
                  exact this
                go_upto_region 27 with fail
                have HS27 : Hid (∀ W', Below W9.heap.size W9 W' → W'.cell? ⟨kb, 0, none⟩ = some (.int .i64 C0) ∧ W'.cell? ⟨kb, 1, none⟩ = some (.int .i64 D0) ∧ W'.cell? ⟨kb, 2, none⟩ = some (.int .i64 (gw : Int)) ∧ W'.cell? ⟨kb, 3, none⟩ = some (.int .i64 (gh : Int)) ∧ W'.cell? ⟨kb, 4, none⟩ = some (.slice (some ⟨rb, ro, none⟩) n0 rc) ∧ W'.cell? ⟨lb, i * 5, none⟩ = some (.int .i64 C0) ∧ W'.cell? ⟨lb, i * 5 + 1, none⟩ = some (.int .i64 D0) ∧ W'.cell? ⟨lb, i * 5 + 2, none⟩ = some (.int .i64 (gw : Int)) ∧ W'.cell? ⟨lb, i * 5 + 3, none⟩ = some (.int .i64 (gh : Int)) ∧ W'.cell? ⟨lb, i * 5 + 4, none⟩ = some (.slice (some ⟨pb, po, none⟩) n0 cp)) := Lib.hid (fun W' hw => by
                  obtain ⟨a0, a1, a2, a3, a4⟩ := (XK.out.later hw).cells
                  exact ⟨a0, a1, a2, a3, a4, HCL.out _ (bel_step HV9.out hw)⟩)
                have hS : W9.drew.cell? ⟨kb, 0, none⟩ = some (.int .i64 C0) ∧ W9.drew.cell? ⟨kb, 1, none⟩ = some (.int .i64 D0) ∧ W9.drew.cell? ⟨kb, 2, none⟩ = some (.int .i64 (gw : Int)) ∧ W9.drew.cell? ⟨kb, 3, none⟩ = some (.int .i64 (gh : Int)) ∧ W9.drew.cell? ⟨kb, 4, none⟩ = some (.slice (some ⟨rb, ro, none⟩) n0 rc) ∧ W9.drew.cell? ⟨lb, i * 5, none⟩ = some (.int .i64 C0) ∧ W9.drew.cell? ⟨lb, i * 5 + 1, none⟩ = some (.int .i64 D0) ∧ W9.drew.cell? ⟨lb, i * 5 + 2, none⟩ = some (.int .i64 (gw : Int)) ∧ W9.drew.cell? ⟨lb, i * 5 + 3, none⟩ = some (.int .i64 (gh : Int)) ∧ W9.drew.cell? ⟨lb, i * 5 + 4, none⟩ = some (.slice (some ⟨pb, po, none⟩) n0 cp) := HS27.out _ (Below.refl _ _).drew
                refine wp_region_held_drew (S := fun w' => w'.cell? ⟨kb, 0, none⟩ = some (.int .i64 C0) ∧ w'.cell? ⟨kb, 1, none⟩ = some (.int .i64 D0) ∧ w'.cell? ⟨kb, 2, none⟩ = some (.int .i64 (gw : Int)) ∧ w'.cell? ⟨kb, 3, none⟩ = some (.int .i64 (gh : Int)) ∧ w'.cell? ⟨kb, 4, none⟩ = some (.slice (some ⟨rb, ro, none⟩) n0 rc) ∧ w'.cell? ⟨lb, i * 5, none⟩ = some (.int .i64 C0) ∧ w'.cell? ⟨lb, i * 5 + 1, none⟩ = some (.int .i64 D0) ∧ w'.cell? ⟨lb, i * 5 + 2, none⟩ = some (.int .i64 (gw : Int)) ∧ w'.cell? ⟨lb, i * 5 + 3, none⟩ = some (.int .i64 (gh : Int)) ∧ w'.cell? ⟨lb, i * 5 + 4, none⟩ = some (.slice (some ⟨pb, po, none⟩) n0 cp)) (by kernel_rfl) hS (fun _ => ?_)
                refine wpAnyH_take (i := 0) (v := .int .i64 0) rfl (by kernel_rfl) (by kernel_rfl) (by kernel_rfl) (fun _ _ _ h => h) (Or.inl ⟨by kernel_rfl, fun w9 hSw => ?_⟩) hS ?_
                · obtain ⟨s1, s2, s3, s4, s5, s6, s7, s8, s9, s10⟩ := hSw
                  go_simp
                change wpAnyH _ _ _ _ _ _ _ (Act.put _ (some 173) (.int .i64 0)) _
                (try simp only [Act.put, List.setIfInBounds_toArray, List.set_cons_zero, List.set_cons_succ])
                refine wpAnyH_take (i := 1) (v := .bool false) rfl (by kernel_rfl) (by kernel_rfl) (by kernel_rfl) (fun _ _ _ h => h) (Or.inl ⟨by kernel_rfl, fun w9 hSw => ?_⟩) hS ?_
                · obtain ⟨s1, s2, s3, s4, s5, s6, s7, s8, s9, s10⟩ := hSw
                  go_simp
                change wpAnyH _ _ _ _ _ _ _ (Act.put _ (some 174) (.bool false)) _
                (try simp only [Act.put, List.setIfInBounds_toArray, List.set_cons_zero, List.set_cons_succ])
                refine wpAnyH_take (i := 2) (v := .bool false) rfl (by kernel_rfl) (by kernel_rfl) (by kernel_rfl) (fun _ _ _ h => h) (Or.inl ⟨by kernel_rfl, fun w9 hSw => ?_⟩) hS ?_
                · obtain ⟨s1, s2, s3, s4, s5, s6, s7, s8, s9, s10⟩ := hSw
                  go_simp
                change wpAnyH _ _ _ _ _ _ _ (Act.put _ (some 175) (.bool false)) _
                (try simp only [Act.put, List.setIfInBounds_toArray, List.set_cons_zero, List.set_cons_succ])
                refine wpAnyH_take (i := 3) (v := .agg #[.int .i64 C0, .int .i64 D0, .int .i64 (gw : Int), .int .i64 (gh : Int), .slice (some ⟨rb, ro, none⟩) n0 rc]) rfl (by kernel_rfl) (by kernel_rfl) (by kernel_rfl) (fun _ _ _ h => h) (Or.inl ⟨by kernel_rfl, fun w9 hSw => ?_⟩) hS ?_
                · obtain ⟨s1, s2, s3, s4, s5, s6, s7, s8, s9, s10⟩ := hSw
                  go_simp
                change wpAnyH _ _ _ _ _ _ _ (Act.put _ (some 176) (.agg #[.int .i64 C0, .int .i64 D0, .int .i64 (gw : Int), .int .i64 (gh : Int), .slice (some ⟨rb, ro, none⟩) n0 rc])) _
                (try simp only [Act.put, List.setIfInBounds_toArray, List.set_cons_zero, List.set_cons_succ])
                refine wpAnyH_take (i := 5) (v := .slice (some ⟨lb, 0, none⟩) 2 2) rfl (by kernel_rfl) (by kernel_rfl) (by kernel_rfl) (fun _ _ _ h => h) (Or.inl ⟨by kernel_rfl, fun w9 hSw => ?_⟩) hS ?_
                · obtain ⟨s1, s2, s3, s4, s5, s6, s7, s8, s9, s10⟩ := hSw
                  go_simp
                change wpAnyH _ _ _ _ _ _ _ (Act.put _ (some 178) (.slice (some ⟨lb, 0, none⟩) 2 2)) _
                (try simp only [Act.put, List.setIfInBounds_toArray, List.set_cons_zero, List.set_cons_succ])
                refine wpAnyH_take (i := 6) (v := .int .i64 (i : Int)) rfl (by kernel_rfl) (by kernel_rfl) (by kernel_rfl) (fun _ _ _ h => h) (Or.inl ⟨by kernel_rfl, fun w9 hSw => ?_⟩) hS ?_
                · obtain ⟨s1, s2, s3, s4, s5, s6, s7, s8, s9, s10⟩ := hSw
                  go_simp
                change wpAnyH _ _ _ _ _ _ _ (Act.put _ (some 179) (.int .i64 (i : Int))) _
                (try simp only [Act.put, List.setIfInBounds_toArray, List.set_cons_zero, List.set_cons_succ])
                refine wpAnyH_take (i := 7) (v := .pointer (some ⟨lb, i * 5, none⟩)) rfl (by kernel_rfl) (by kernel_rfl) (by kernel_rfl) (fun _ _ _ h => h) (Or.inl ⟨by kernel_rfl, fun w9 hSw => ?_⟩) hS ?_
                · obtain ⟨s1, s2, s3, s4, s5, s6, s7, s8, s9, s10⟩ := hSw
                  go_simp
                change wpAnyH _ _ _ _ _ _ _ (Act.put _ (some 180) (.pointer (some ⟨lb, i * 5, none⟩))) _
                (try simp only [Act.put, List.setIfInBounds_toArray, List.set_cons_zero, List.set_cons_succ])
                refine wpAnyH_take (i := 8) (v := .agg #[.int .i64 C0, .int .i64 D0, .int .i64 (gw : Int), .int .i64 (gh : Int), .slice (some ⟨pb, po, none⟩) n0 cp]) rfl (by kernel_rfl) (by kernel_rfl) (by kernel_rfl) (fun _ _ _ h => h) (Or.inl ⟨by kernel_rfl, fun w9 hSw => ?_⟩) hS ?_
                · obtain ⟨s1, s2, s3, s4, s5, s6, s7, s8, s9, s10⟩ := hSw
                  go_simp
                change wpAnyH _ _ _ _ _ _ _ (Act.put _ (some 181) (.agg #[.int .i64 C0, .int .i64 D0, .int .i64 (gw : Int), .int .i64 (gh : Int), .slice (some ⟨pb, po, none⟩) n0 cp])) _
                (try simp only [Act.put, List.setIfInBounds_toArray, List.set_cons_zero, List.set_cons_succ])
                refine wpAnyH_ready (rs := [4]) (by kernel_rfl) (by simp) ?_
                refine AllReadyH.cons rfl (fun K hK => ?_) AllReadyH.nil
                go_simp
                refine (QA.out _).mono ?_
                rintro e v4 ⟨rfl, hbb⟩
                have HZ1 := Lib.hid (bel_undW hbb)
                have hS2 := HS27.out _ HZ1.out
                clear hS hbb
                have hS := hS2
                clear hS2
                refine hK.out _ _ hS (fun _ => ?_)
                clear hK K
                (try simp only [Act.put, List.setIfInBounds_toArray, List.set_cons_zero, List.set_cons_succ])
                refine wpAnyH_ready (rs := [9]) (by kernel_rfl) (by simp) ?_
                refine AllReadyH.cons rfl (fun K hK => ?_) AllReadyH.nil
                go_simp
                refine (QS1.out _ HZ1.out).mono ?_
                rintro e v5 ⟨rfl, hbb⟩
                have HZ2 := Lib.hid (bel_step HZ1.out hbb)
                have hS2 := HS27.out _ HZ2.out
                clear hS hbb
                have hS := hS2
                clear hS2
                refine hK.out _ _ hS (fun _ => ?_)
                clear hK K
                (try simp only [Act.put, List.setIfInBounds_toArray, List.set_cons_zero, List.set_cons_succ])
                refine wpAnyH_take (i := 10) (v := .bool false) rfl (by kernel_rfl) (by kernel_rfl) (by kernel_rfl) (fun _ _ _ h => h) (Or.inl ⟨by kernel_rfl, fun w9 hSw => ?_⟩) hS ?_
                · obtain ⟨s1, s2, s3, s4, s5, s6, s7, s8, s9, s10⟩ := hSw
                  go_simp
                change wpAnyH _ _ _ _ _ _ _ (Act.put _ (some 183) (.bool false)) _
                (try simp only [Act.put, List.setIfInBounds_toArray, List.set_cons_zero, List.set_cons_succ])
                refine wpAnyH_take (i := 11) (v := .bool false) rfl (by kernel_rfl) (by kernel_rfl) (by kernel_rfl) (fun _ _ _ h => h) (Or.inl ⟨by kernel_rfl, fun w9 hSw => ?_⟩) hS ?_
                · obtain ⟨s1, s2, s3, s4, s5, s6, s7, s8, s9, s10⟩ := hSw
                  go_simp
                change wpAnyH _ _ _ _ _ _ _ (Act.put _ (some 184) (.bool false)) _
                (try simp only [Act.put, List.setIfInBounds_toArray, List.set_cons_zero, List.set_cons_succ])
                refine wpAnyH_take (i := 12) (v := .bool false) rfl (by kernel_rfl) (by kernel_rfl) (by kernel_rfl) (fun _ _ _ h => h) (Or.inl ⟨by kernel_rfl, fun w9 hSw => ?_⟩) hS ?_
                · obtain ⟨s1, s2, s3, s4, s5, s6, s7, s8, s9, s10⟩ := hSw
                  go_simp
                change wpAnyH _ _ _ _ _ _ _ (Act.put _ (some 185) (.bool false)) _
                (try simp only [Act.put, List.setIfInBounds_toArray, List.set_cons_zero, List.set_cons_succ])
                refine wpAnyH_take (i := 13) (v := .agg #[.int .i64 C0, .int .i64 D0, .int .i64 (gw : Int), .int .i64 (gh : Int), .slice (some ⟨rb, ro, none⟩) n0 rc]) rfl (by kernel_rfl) (by kernel_rfl) (by kernel_rfl) (fun _ _ _ h => h) (Or.inl ⟨by kernel_rfl, fun w9 hSw => ?_⟩) hS ?_
                · obtain ⟨s1, s2, s3, s4, s5, s6, s7, s8, s9, s10⟩ := hSw
                  go_simp
                change wpAnyH _ _ _ _ _ _ _ (Act.put _ (some 186) (.agg #[.int .i64 C0, .int .i64 D0, .int .i64 (gw : Int), .int .i64 (gh : Int), .slice (some ⟨rb, ro, none⟩) n0 rc])) _
                (try simp only [Act.put, List.setIfInBounds_toArray, List.set_cons_zero, List.set_cons_succ])
                refine wpAnyH_take (i := 14) (v := .slice (some ⟨lb, 0, none⟩) 2 2) rfl (by kernel_rfl) (by kernel_rfl) (by kernel_rfl) (fun _ _ _ h => h) (Or.inl ⟨by kernel_rfl, fun w9 hSw => ?_⟩) hS ?_
                · obtain ⟨s1, s2, s3, s4, s5, s6, s7, s8, s9, s10⟩ := hSw
                  go_simp
                change wpAnyH _ _ _ _ _ _ _ (Act.put _ (some 187) (.slice (some ⟨lb, 0, none⟩) 2 2)) _
                (try simp only [Act.put, List.setIfInBounds_toArray, List.set_cons_zero, List.set_cons_succ])
                refine wpAnyH_take (i := 15) (v := .int .i64 (i : Int)) rfl (by kernel_rfl) (by kernel_rfl) (by kernel_rfl) (fun _ _ _ h => h) (Or.inl ⟨by kernel_rfl, fun w9 hSw => ?_⟩) hS ?_
                · obtain ⟨s1, s2, s3, s4, s5, s6, s7, s8, s9, s10⟩ := hSw
                  go_simp
                change wpAnyH _ _ _ _ _ _ _ (Act.put _ (some 188) (.int .i64 (i : Int))) _
                (try simp only [Act.put, List.setIfInBounds_toArray, List.set_cons_zero, List.set_cons_succ])
                refine wpAnyH_take (i := 16) (v := .pointer (some ⟨lb, i * 5, none⟩)) rfl (by kernel_rfl) (by kernel_rfl) (by kernel_rfl) (fun _ _ _ h => h) (Or.inl ⟨by kernel_rfl, fun w9 hSw => ?_⟩) hS ?_
                · obtain ⟨s1, s2, s3, s4, s5, s6, s7, s8, s9, s10⟩ := hSw
                  go_simp
                change wpAnyH _ _ _ _ _ _ _ (Act.put _ (some 189) (.pointer (some ⟨lb, i * 5, none⟩))) _
                (try simp only [Act.put, List.setIfInBounds_toArray, List.set_cons_zero, List.set_cons_succ])
                refine wpAnyH_take (i := 17) (v := .agg #[.int .i64 C0, .int .i64 D0, .int .i64 (gw : Int), .int .i64 (gh : Int), .slice (some ⟨pb, po, none⟩) n0 cp]) rfl (by kernel_rfl) (by kernel_rfl) (by kernel_rfl) (fun _ _ _ h => h) (Or.inl ⟨by kernel_rfl, fun w9 hSw => ?_⟩) hS ?_
                · obtain ⟨s1, s2, s3, s4, s5, s6, s7, s8, s9, s10⟩ := hSw
                  go_simp
                change wpAnyH _ _ _ _ _ _ _ (Act.put _ (some 190) (.agg #[.int .i64 C0, .int .i64 D0, .int .i64 (gw : Int), .int .i64 (gh : Int), .slice (some ⟨pb, po, none⟩) n0 cp])) _
                (try simp only [Act.put, List.setIfInBounds_toArray, List.set_cons_zero, List.set_cons_succ])
                refine wpAnyH_ready (rs := [18]) (by kernel_rfl) (by simp) ?_
                refine AllReadyH.cons rfl (fun K hK => ?_) AllReadyH.nil
                go_simp
                refine (QO.out _).mono ?_
                rintro e v6 ⟨rfl, hbb⟩
                have HZ3 := Lib.hid (bel_step HZ2.out hbb)
                have hS2 := HS27.out _ HZ3.out
                clear hS hbb
                have hS := hS2
                clear hS2
                refine hK.out _ _ hS (fun _ => ?_)
                clear hK K
                (try simp only [Act.put, List.setIfInBounds_toArray, List.set_cons_zero, List.set_cons_succ])
                refine wpAnyH_ready (rs := [19]) (by kernel_rfl) (by simp) ?_
                refine AllReadyH.cons rfl (fun K hK => ?_) AllReadyH.nil
                go_simp
                refine (QS2.out _ HZ3.out).mono ?_
                rintro e v7 ⟨rfl, hbb⟩
                have HZ4 := Lib.hid (bel_step HZ3.out hbb)
                have hS2 := HS27.out _ HZ4.out
                clear hS hbb
                have hS := hS2
                clear hS2
                refine hK.out _ _ hS (fun _ => ?_)
                clear hK K
                (try simp only [Act.put, List.setIfInBounds_toArray, List.set_cons_zero, List.set_cons_succ])
                refine wpAnyH_take (i := 20) (v := .bool false) rfl (by kernel_rfl) (by kernel_rfl) (by kernel_rfl) (fun _ _ _ h => h) (Or.inl ⟨by kernel_rfl, fun w9 hSw => ?_⟩) hS ?_
                · obtain ⟨s1, s2, s3, s4, s5, s6, s7, s8, s9, s10⟩ := hSw
                  go_simp
                change wpAnyH _ _ _ _ _ _ _ (Act.put _ (some 193) (.bool false)) _
                (try simp only [Act.put, List.setIfInBounds_toArray, List.set_cons_zero, List.set_cons_succ])
                refine wpAnyH_take (i := 21) (v := .bool false) rfl (by kernel_rfl) (by kernel_rfl) (by kernel_rfl) (fun _ _ _ h => h) (Or.inl ⟨by kernel_rfl, fun w9 hSw => ?_⟩) hS ?_
                · obtain ⟨s1, s2, s3, s4, s5, s6, s7, s8, s9, s10⟩ := hSw
                  go_simp
                change wpAnyH _ _ _ _ _ _ _ (Act.put _ (some 194) (.bool false)) _
                (try simp only [Act.put, List.setIfInBounds_toArray, List.set_cons_zero, List.set_cons_succ])
                refine wpAnyH_done (by kernel_rfl) ?_ _
                (try simp only [Act.put, List.setIfInBounds_toArray, List.set_cons_zero, List.set_cons_succ])
                clear hS
                go_wp2_with fail
                go_roundw
                case rel => exact ⟨k + 1, by omega, by go_num, bel_step HV9.out HZ4.out⟩
                case measure => simp [intOf]; omega
          · obtain rfl : k = 8 := by omega
            have hktI : ¬ ((8 : Nat) : Int) < 8 := by omega
            go_wp2_with fail
            go_roundw
            case rel => exact ⟨i + 1, by omega, by go_num, HBk.out⟩
            case measure => simp [intOf]; omega
      · obtain rfl : i = 2 := by omega
        have hitI : ¬ ((2 : Nat) : Int) < 2 := by omega
        go_wp2_with (go_at_call 23; refine (lives10_any _).mono ?_; rintro e v9 ⟨rfl, hb9⟩; have HL9 := Lib.hid hb9; clear hb9)
        go_ret
        exact ⟨rfl, bel_step HBV.out (bel_step HBi.out HL9.out)⟩
end Go.Proofs.YtmnhiagppicegaaGreat

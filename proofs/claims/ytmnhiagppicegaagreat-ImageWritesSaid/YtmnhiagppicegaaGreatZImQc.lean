/- The image of digits that bytes begin with, with the room that its pixels have, over any memory. Condition: not too many bytes; digits. -/
import Derived.Test.YtmnhiagppicegaaGreatZImQ
import Derived.Test.YtmnhiagppicegaaGreatZgAG
import Derived.Deep.DeepCutAuto
import Derived.Deep.RegionHeld3
namespace Go.Proofs.YtmnhiagppicegaaGreat
open Go.RowKit
set_option linter.unusedVariables false
theorem imparc_bad {t : Im.P} {er : Int} {w w' : World} (ht : t = Im.bad er) (hB : Below w.heap.size w w') : ImParC t w (.returned (.tuple #[agI 0 0 0 0 (.slice none 0 0), .int .i64 0, .int .i64 er])) w' :=
  ⟨none, 0, by rw [ht]; rfl, by rw [ht]; exact slk_nil, hB, by rw [ht]; exact ⟨Nat.le_refl _, by omega⟩⟩
theorem imparc_all {t : Im.P} {h : Hd.H} {l : List Int} {u k x : Int} {a : Option Addr} {cap : Nat} {w w' : World} (ht : t = ⟨Hj.chan h, h.m, h.w, h.h, l, u + k, 0⟩) (hx : x = u + k) (hs : SlK .u64 w' a l.length l) (hB : Below w.heap.size w w') (hcp : Cp l.length cap) : ImParC t w (.returned (.tuple #[agI (Hj.chan h) h.m h.w h.h (.slice a l.length cap), .int .i64 x, .int .i64 0])) w' :=
  ⟨a, cap, by rw [ht, hx], by rw [ht]; exact hs, hB, by rw [ht]; exact hcp⟩
set_option maxRecDepth 100000 in
set_option maxHeartbeats 4000000 in
theorem imParseC_any (a : Option Addr) (nb cb : Nat) (bs : List Int) (hnb : nb ≤ 100000) (x y z : Int) (hk3 : ¬ 3 < (Hd.parseV (Hd.limits x y z) bs).1.kd) (w : World) (hs : Bt.Bs w a nb cb bs) :
    Calls Tryz.prog 18 #[.slice a nb cb, .agg #[.int .i64 x, .int .i64 y, .int .i64 z]] w (ImParC (Im.parseV (Hd.limits x y z) bs) w) := by
  have hsz : (strOfNums bs).size ≤ 100000 := by rw [strOfNums_size, hs.1.1]; exact hnb
  have HP := Lib.hid (hparse_any (strOfNums bs) hsz x y z)
  unfold HParR at HP
  rw [bytesOf_strOfNums hs.2.2.2] at HP
  obtain ⟨T, hT⟩ : ∃ T, Im.parseV (Hd.limits x y z) bs = T := ⟨_, rfl⟩
  have HM := Lib.hid (Hd.parse_may x y z bs)
  have HH := fun h u e => @Im.parse_head (Hd.limits x y z) bs h u e
  have HR := fun h u l k e hp => @Im.parse_read (Hd.limits x y z) bs h u hp l k e
  have HA := fun h u l k hp => @Im.parse_all (Hd.limits x y z) bs h u hp l k
  rw [hT] at HH HR HA ⊢
  obtain ⟨P, hP⟩ : ∃ P, Hd.parseV (Hd.limits x y z) bs = P := ⟨_, rfl⟩
  rw [hP] at HP HM HH HR HA hk3
  obtain ⟨⟨kd, ww, hh, mx⟩, u, er⟩ := P
  have HK3 := Lib.hid hk3
  clear hk3
  have HS := Lib.hid hs
  have HHd := Lib.hid (HH ⟨kd, ww, hh, mx⟩ u er rfl)
  have HR := Lib.hid (HR ⟨kd, ww, hh, mx⟩ u)
  have HA := Lib.hid (HA ⟨kd, ww, hh, mx⟩ u)
  have HL : Hid (bs.length = nb) := Lib.hid hs.1.1
  have C0 := Cv.conv_slk (cap := cb) ((hs.below (box2 w (.cells #[.int .i64 x, .int .i64 y, .int .i64 z] 55) (.cells #[.int .i64 0, .int .i64 0, .int .i64 0, .int .i64 0, .slice none 0 0] 40))).1)
  clear hT hP hsz hs HH
  have hbx := box2 w (.cells #[.int .i64 x, .int .i64 y, .int .i64 z] 55) (.cells #[.int .i64 0, .int .i64 0, .int .i64 0, .int .i64 0, .slice none 0 0] 40)
  have Z := Ib.new (w.alloc (.cells #[.int .i64 x, .int .i64 y, .int .i64 z] 55)) 40 0 0 0 0 (.slice none 0 0)
  rw [show (w.alloc (.cells #[.int .i64 x, .int .i64 y, .int .i64 z] 55)).heap.size = w.heap.size + 1 by simp] at Z
  obtain ⟨W0, hW0⟩ : ∃ W0, (w.alloc (.cells #[.int .i64 x, .int .i64 y, .int .i64 z] 55)).alloc (.cells #[.int .i64 0, .int .i64 0, .int .i64 0, .int .i64 0, .slice none 0 0] 40) = W0 := ⟨_, rfl⟩
  have l0 : W0.cell? ⟨w.heap.size, 0, none⟩ = some (.int .i64 x) := by rw [← hW0]; simp [go_sem]
  have l1 : W0.cell? ⟨w.heap.size, 1, none⟩ = some (.int .i64 y) := by rw [← hW0]; simp [go_sem]
  have l2 : W0.cell? ⟨w.heap.size, 2, none⟩ = some (.int .i64 z) := by rw [← hW0]; simp [go_sem]
  go_enter Tryz.func18, Tryz.ntmps18
  go_upto_region 1 with fail
  rw [hW0] at hbx Z C0
  try rw [hW0]
  clear hW0
  go_wp2_with fail
  refine (HP.out _).mono ?_
  unfold agH hcnt
  rintro e w2 ⟨rfl, hb2⟩
  simp only
  replace Z := Z.later hb2
  replace hbx := hbx.trans (hb2.mono hbx.size)
  clear C0 l0 l1 l2 HP hb2
  go_upto_region 2 with fail
  have Y := Hb.new w2 49 ⟨kd, ww, hh, mx⟩
  have hb1 := box1 w2 (.cells #[.int .i64 kd, .int .i64 ww, .int .i64 hh, .int .i64 mx] 49)
  simp only at Y
  obtain ⟨gh, hgh⟩ : ∃ gh, w2.heap.size = gh := ⟨_, rfl⟩
  have hne5 : w.heap.size + 1 ≠ gh := by have := Z.lt; omega
  obtain ⟨W1, hW1⟩ : ∃ W1, w2.alloc (.cells #[.int .i64 kd, .int .i64 ww, .int .i64 hh, .int .i64 mx] 49) = W1 := ⟨_, rfl⟩
  rw [hW1] at Y hb1
  try rw [hW1]
  rw [hgh] at Y
  try rw [hgh]
  clear hW1 hgh
  replace Z := Z.later hb1
  replace hbx := hbx.trans (hb1.mono hbx.size)
  clear hb1
  obtain ⟨z0, z1, z2, z3, z4⟩ := Z.cells
  obtain ⟨f0, f1, f2, f3, f4⟩ := Z.fr
  by_cases he : er = 0
  · subst he
    rw [if_pos rfl]
    obtain ⟨hm, u1, u2⟩ := HM.out rfl
    (try simp only at hm u1 u2)
    rw [HL.out] at u2
    obtain ⟨un, rfl⟩ : ∃ un : Nat, u = (un : Int) := ⟨u.toNat, by omega⟩
    have hun : un ≤ nb := by omega
    have HCS : Hid (∀ W, Below w.heap.size w W → Bt.Bs W (Im.cutA a cb un) (nb - un) (cb - un) (bs.drop un)) := Lib.hid fun W hb => Im.cut_bs (HS.out.below hb) hun
    have HR1 := Lib.hid (fun l k e => HR.out l k e rfl)
    have HA1 := Lib.hid (fun l k => HA.out l k rfl)
    rw [Int.toNat_natCast] at HR1 HA1
    have C := fun W => Im.run_cut a nb cb un hun W
    have HFm := Lib.hid (hformat_any ⟨kd, ww, hh, mx⟩ hm)
    unfold Hj.fm agH at HFm
    simp only at HFm
    have hrl := Im.read_len hm (bs.drop un)
    rw [List.length_drop, HL.out] at hrl
    clear HHd HM HR HA z0 z1 z2 z3 z4 f0 f1 f2 f3 f4
    have hBt := Below.refl W1.heap.size W1
    obtain ⟨k0, k1, k2, k3⟩ := Y.cells
    simp only at k0 k1 k2 k3
    have HRD : Hid (∀ W, Below w.heap.size w W → Calls Tryz.prog 58 #[.slice (Im.cutA a cb un) (nb - un) (cb - un), .agg #[.int .i64 kd, .int .i64 ww, .int .i64 hh, .int .i64 mx]] W (RdRc (Im.readV ⟨kd, ww, hh, mx⟩ (bs.drop un)) W)) := Lib.hid fun W hb => imReadC_any _ _ _ _ (by omega) _ hm (by have := HK3.out; simp only; omega) W (HCS.out W hb)
    obtain ⟨t, ht⟩ : ∃ t, Im.readV ⟨kd, ww, hh, mx⟩ (bs.drop un) = t := ⟨_, rfl⟩
    rw [ht] at HRD hrl
    have HV0 := Lib.hid ht
    clear ht
    obtain ⟨l, k, e⟩ := t
    simp only at hrl
    have HV : Hid (Im.readV ⟨kd, ww, hh, mx⟩ (bs.drop un) = (l, k, e)) := HV0
    unfold RdRc at HRD
    simp only at HRD
    go_upto_region 4 with fail
    go_cut [9, 10, 11] (fun s9 s10 s11 wx => ∃ ra rc, s10 = .slice ra l.length rc ∧ s11 = .int .i64 k ∧ s9 = .int .i64 e ∧ SlK .u64 wx ra l.length l ∧ Cp l.length rc ∧ Below W1.heap.size W1 wx)
    case first =>
      go_region_held3 (fun w' => w'.cell? ⟨gh, 0, none⟩ = some (.int .i64 kd) ∧ w'.cell? ⟨gh, 1, none⟩ = some (.int .i64 ww) ∧ w'.cell? ⟨gh, 2, none⟩ = some (.int .i64 hh) ∧ w'.cell? ⟨gh, 3, none⟩ = some (.int .i64 mx))
        (first | exact ⟨k0, k1, k2, k3⟩ | exact ⟨cell_later (by repeat' (first | (with_reducible first | exact hBt | refine Below.alloc ?_ ?_ _ | refine Below.drew ?_ | refine below_drewN ?_ _ | refine Below.setCell ?_ ?_ _) | exact hBt.size | (have := hBt.size; first | omega | (simp; done) | (simp; omega)))) k0, cell_later (by repeat' (first | (with_reducible first | exact hBt | refine Below.alloc ?_ ?_ _ | refine Below.drew ?_ | refine below_drewN ?_ _ | refine Below.setCell ?_ ?_ _) | exact hBt.size | (have := hBt.size; first | omega | (simp; done) | (simp; omega)))) k1, cell_later (by repeat' (first | (with_reducible first | exact hBt | refine Below.alloc ?_ ?_ _ | refine Below.drew ?_ | refine below_drewN ?_ _ | refine Below.setCell ?_ ?_ _) | exact hBt.size | (have := hBt.size; first | omega | (simp; done) | (simp; omega)))) k2, cell_later (by repeat' (first | (with_reducible first | exact hBt | refine Below.alloc ?_ ?_ _ | refine Below.drew ?_ | refine below_drewN ?_ _ | refine Below.setCell ?_ ?_ _) | exact hBt.size | (have := hBt.size; first | omega | (simp; done) | (simp; omega)))) k3⟩)
        (first | (go_at_call 58; refine (HRD.out _ (hbx.trans ((show Below W1.heap.size W1 _ from (by repeat' (first | (with_reducible first | exact hBt | refine Below.alloc ?_ ?_ _ | refine Below.drew ?_ | refine below_drewN ?_ _ | refine Below.setCell ?_ ?_ _) | exact hBt.size | (have := hBt.size; first | omega | (simp; done) | (simp; omega))))).mono hbx.size))).mono ?_; rintro e9 w9 ⟨ra, rc, rfl, hrs, hb9, hcp9⟩; have HCP9 := Lib.hid hcp9; clear hcp9; have HRS := Lib.hid hrs; replace hBt := bel_step (w := W1) (by repeat' (first | (with_reducible first | exact hBt | refine Below.alloc ?_ ?_ _ | refine Below.drew ?_ | refine below_drewN ?_ _ | refine Below.setCell ?_ ?_ _) | exact hBt.size | (have := hBt.size; first | omega | (simp; done) | (simp; omega)))) hb9))
      all_goals
        go_wp2_with fail
        go_meet
        case rel => exact ⟨ra, rc, rfl, rfl, rfl, by first | exact HRS.out | exact HRS.out.below (by go_grown), HCP9.out, (by repeat' (first | (with_reducible first | exact hBt | refine Below.alloc ?_ ?_ _ | refine Below.drew ?_ | refine below_drewN ?_ _ | refine Below.setCell ?_ ?_ _) | exact hBt.size | (have := hBt.size; first | omega | (simp; done) | (simp; omega))))⟩
    case rest =>
      obtain ⟨ra, rc, rfl, rfl, rfl, hrs, hcp, hbc⟩ := hcut
      have HCP := Lib.hid hcp
      clear hcp
      have HRS := Lib.hid hrs
      replace Y := Y.later hbc
      replace Z := Z.later hbc
      replace hbx := hbx.trans (hbc.mono hbx.size)
      clear hBt k0 k1 k2 k3 C hrs hbc
      obtain ⟨k0, k1, k2, k3⟩ := Y.cells
      simp only at k0 k1 k2 k3
      obtain ⟨z0, z1, z2, z3, z4⟩ := Z.cells
      obtain ⟨f0, f1, f2, f3, f4⟩ := Z.fr
      by_cases he : e = 0
      · subst he
        obtain ⟨ch, hch⟩ : ∃ ch, Hj.chan ⟨kd, ww, hh, mx⟩ = ch := ⟨_, rfl⟩
        rw [hch] at HFm
        have hch0 := Lib.hid hch
        have hadd : IntKind.i64.wrap ((un : Int) + k) = (un : Int) + k := by rw [IntWalk.i64_in] <;> omega
        have hBt := Below.refl wc.heap.size wc
        clear hch z0 z1 z2 z3 z4 f0 f1 f2 f3 f4
        go_upto_region 7 with fail
        go_region_held3 (fun w' => w'.cell? ⟨gh, 0, none⟩ = some (.int .i64 kd) ∧ w'.cell? ⟨gh, 1, none⟩ = some (.int .i64 ww) ∧ w'.cell? ⟨gh, 2, none⟩ = some (.int .i64 hh) ∧ w'.cell? ⟨gh, 3, none⟩ = some (.int .i64 mx))
          (first | (with_reducible exact ⟨m0, m1, m2, m3⟩) | (with_reducible exact ⟨im5_other hne5 m0, im5_other hne5 m1, im5_other hne5 m2, im5_other hne5 m3⟩) | exact ⟨k0, k1, k2, k3⟩)
          (first | (go_at_call 59; refine (HFm.out _).mono ?_; rintro e9 w9 ⟨rfl, hb9⟩; replace hBt := bel_step (w := wc) (by first | exact hBt | exact hBt.drew) hb9; have Z9 := Z.later (show Below wc.heap.size wc w9 from hBt); obtain ⟨z0, z1, z2, z3, z4⟩ := Z9.cells; obtain ⟨f0, f1, f2, f3, f4⟩ := Z9.fr; obtain ⟨m0, m1, m2, m3⟩ := (Y.later (show Below wc.heap.size wc w9 from hBt)).cells; simp only at m0 m1 m2 m3))
        all_goals
          go_wp2
          (try simp only [Exit.inBlock, Exit.then])
          refine bodyPost_ret (Hj.ret3 Tryz.results18 _ _ _ _ rfl (load_im (Z9.put ch mx ww hh (.slice ra l.length rc)))) rfl ?_
          rw [← hch0.out]
          exact imparc_all (h := ⟨kd, ww, hh, mx⟩) (HA1.out l k HV.out) (by first | rfl | exact hadd) (Im.slk_store Z9 (HRS.out.below hBt) (fun k l v hne hc => im5_other hne hc)) ((((((hbx.trans (hBt.mono hbx.size)).setCell (by simp) _).setCell (by simp) _).setCell (by simp) _).setCell (by simp) _).setCell (by simp) _) HCP.out
      · have hne : (e != 0) = true := by simpa using he
        have HB := Lib.hid (HR1.out l k e HV.out he)
        go_wp2
        (try simp only [Exit.inBlock, Exit.then])
        refine bodyPost_ret (Hj.ret3 Tryz.results18 _ _ _ _ rfl (load_im (Z.put 0 0 0 0 (.slice none 0 0)))) rfl ?_
        exact imparc_bad HB.out (((((hbx.setCell (by simp) _).setCell (by simp) _).setCell (by simp) _).setCell (by simp) _).setCell (by simp) _)
  · have hne : (er != 0) = true := by simpa using he
    rw [if_neg he]
    go_wp2
    (try simp only [Exit.inBlock, Exit.then])
    refine bodyPost_ret (Hj.ret3 Tryz.results18 _ _ _ _ rfl (load_im (Z.put 0 0 0 0 (.slice none 0 0)))) rfl ?_
    exact imparc_bad (HHd.out he) (((((hbx.setCell (by simp) _).setCell (by simp) _).setCell (by simp) _).setCell (by simp) _).setCell (by simp) _)
end Go.Proofs.YtmnhiagppicegaaGreat

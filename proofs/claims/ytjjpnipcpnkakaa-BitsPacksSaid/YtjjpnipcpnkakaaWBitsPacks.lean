/- BitsPacks: a row's bytes are the document's, or refused; they are unpacked as they were, and no spare bit is 1: the walk of the law. No condition. -/
import Derived.Test.YtjjpnipcpnkakaaBtT
namespace Go.Proofs.Ytjjpnipcpnkakaa
open Go.RowKit Go.Shelf
set_option linter.unusedVariables false
namespace Bt
theorem spare_t (a : Option Addr) (n cap : Nat) (zs : List Int) (W : Int) (w : World) (h : Bs w a n cap zs) (s : Int) (hs : spareV zs W = s) :
    Calls Try.prog 51 #[.slice a n cap, .int .i64 W] w fun e w' => e = .returned (.int .i64 s) ∧ Below w.heap.size w w' := by
  rw [← hs]; exact spare_any a n cap zs W w h
end Bt
set_option maxRecDepth 100000 in
set_option maxHeartbeats 8000000 in
theorem bitsPacks_walk (a0 : Option Addr) (len0 cap0 : Nat) (z0 : List Int) (w : World) (w0 : IsRow .i64 w a0 len0 cap0 z0) :
    Calls Try.prog 8 #[.slice a0 len0 cap0] w fun e w' => e = .returned (.bool true) ∧ Below w.heap.size w w' := by
  obtain ⟨l1, l2, l3, l4⟩ := isrow_len w0
  obtain ⟨m, hmm⟩ : ∃ m, ((len0 ≤ 60 ∧ m = len0) ∨ (60 < len0 ∧ m = 60)) := ⟨min len0 60, by omega⟩
  have hm1 : m ≤ len0 := by omega
  have hm60 : m ≤ 60 := by omega
  obtain ⟨ha, hI⟩ := Bt.ls_in w0 m hm1
  have HA := Lib.hid ha
  have HI := Lib.hid hI
  clear ha hI
  generalize z0.take m = la at HA HI
  obtain ⟨own, hown⟩ : ∃ own, Bt.onesV la 60 = own := ⟨_, rfl⟩
  have OO := Lib.hid (show Bt.Ones own by rw [← hown]; exact Bt.onesV_01 _ _)
  have LOWN := Lib.hid (show own.length = m by rw [← hown, Bt.onesV_len, HA.out.1.1]; omega)
  have HOWN := Lib.hid hown
  obtain ⟨eL, eL'⟩ : ∃ e, Bt.packE la = e := ⟨_, rfl⟩
  obtain ⟨pL, pL'⟩ : ∃ e, Bt.packV la = e := ⟨_, rfl⟩
  obtain ⟨nL, nL'⟩ : ∃ e, pL.length = e := ⟨_, rfl⟩
  obtain ⟨sL, sL'⟩ : ∃ e, strOfNums pL = e := ⟨_, rfl⟩
  obtain ⟨eO, eO'⟩ : ∃ e, Bt.packE own = e := ⟨_, rfl⟩
  obtain ⟨pO, pO'⟩ : ∃ e, Bt.packV own = e := ⟨_, rfl⟩
  obtain ⟨nO, nO'⟩ : ∃ e, pO.length = e := ⟨_, rfl⟩
  obtain ⟨sO, sO'⟩ : ∃ e, strOfNums pO = e := ⟨_, rfl⟩
  have EL := Lib.hid eL'; have PL := Lib.hid pL'; have NL := Lib.hid nL'; have SL := Lib.hid sL'
  have EO := Lib.hid eO'; have PO := Lib.hid pO'; have NO := Lib.hid nO'; have SO := Lib.hid sO'
  clear w0 l2 hm1 hown eL' pL' nL' sL' eO' pO' nO' sO'
  rcases hmm with ⟨h, rfl⟩ | ⟨h, rfl⟩
  · have kd : min (m : Int) 60 = m := by omega
    clear h
    go_enter Try.func8, Try.ntmps8
    go_wp2_with fail
    refine (Bt.ones_t a0 m cap0 60 la _ HA.out (by omega) own m HOWN.out LOWN.out).mono ?_
    rintro e w1 ⟨ad1, c1, rfl, L1, B1⟩
    have HL1 := Lib.hid L1; have HB1 := Lib.hid B1; have HA1 := Lib.hid (HA.out.later B1)
    clear L1 B1
    go_wp2_with fail
    refine (Bt.pack_t _ _ _ la _ HA1.out eL pL nL EL.out PL.out NL.out).mono ?_
    rintro e w2 ⟨ad2, c2, rfl, L2, B2⟩
    have HL2 := Lib.hid L2; have HB2 := Lib.hid (bel_step HB1.out B2); have HA2 := Lib.hid (HA1.out.later B2); have HO2 := Lib.hid (HL1.out.later B2)
    clear L2 B2
    go_wp2_with fail
    refine (Bt.refPack_t _ _ _ la _ HA2.out HI.out eL pL nL EL.out PL.out NL.out).mono ?_
    rintro e w3 ⟨ad3, c3, rfl, L3, B3⟩
    have HL3 := Lib.hid L3; have HB3 := Lib.hid (bel_step HB2.out B3); have HL23 := Lib.hid (HL2.out.later B3); have HO3 := Lib.hid (HO2.out.later B3)
    clear L3 B3
    go_wp2_with fail
    refine (Bt.pack_t _ _ _ own _ HO3.out eO pO nO EO.out PO.out NO.out).mono ?_
    rintro e w4 ⟨ad4, c4, rfl, L4, B4⟩
    have HL4 := Lib.hid L4; have HB4 := Lib.hid (bel_step HB3.out B4); have HL24 := Lib.hid (HL23.out.later B4); have HL34 := Lib.hid (HL3.out.later B4); have HO4 := Lib.hid (HO3.out.later B4)
    clear L4 B4
    go_wp2_with fail
    refine (Bt.refPack_t _ _ _ own _ HO4.out (Bt.ones_I OO.out) eO pO nO EO.out PO.out NO.out).mono ?_
    rintro e w5 ⟨ad5, c5, rfl, L5, B5⟩
    have HB5 := Lib.hid (bel_step HB4.out B5)
    have HO5 := Lib.hid (HO4.out.later B5)
    have HC5 := Lib.hid (HL4.out.later B5)
    have C2 := Cv.conv_slk (cap := c2) (HL24.out.later B5).1
    have C3 := Cv.conv_slk (cap := c3) (HL34.out.later B5).1
    have C4 := Cv.conv_slk (cap := c4) HC5.out.1
    have C5 := Cv.conv_slk (cap := c5) L5.1
    rw [SL.out] at C2 C3
    rw [SO.out] at C4 C5
    clear L5 B5
    by_cases h0 : m = 0
    · have hm0 : ((m : Int) == 0) = true := by simp; omega
      have e1 : eO = 1 := by rw [← EO.out]; unfold Bt.packE; rw [show Bt.packOk own = false by unfold Bt.packOk; rw [LOWN.out, h0]; rfl]; rfl
      subst e1
      clear h0
      go_wp2_with (go_at_call 53; refine (Bt.lives7_any _).mono ?_; rintro e wb ⟨rfl, hbb⟩)
      go_ret
      exact ⟨rfl, bel_step HB5.out hbb⟩
    · have m1 : 1 ≤ m := by omega
      have hm0 : ((m : Int) == 0) = false := by simp; omega
      clear h0
      obtain ⟨-, b1, b2, b3, b4, b5⟩ := Bt.pack_back OO.out (by rw [LOWN.out]; omega) (by rw [LOWN.out]; omega)
      rw [LOWN.out] at b3 b4 b5
      rw [b1] at PO
      have e0 : eO = 0 := by rw [← EO.out, b2]
      subst e0
      rw [PO.out] at b3 b4 b5
      rw [NO.out] at b3
      have HBs : Hid (Bt.Bs w5 ad4 nO c4 pO) := Lib.hid (by have := HC5.out; rw [← PO.out, ← b1] at this ⊢; exact Bt.bs_of this)
      have R3 := Lib.hid b3; have R4 := Lib.hid b4; have R5 := Lib.hid b5
      clear b1 b2 b3 b4 b5
      go_wp2_with fail
      refine (Bt.unpack_t _ _ _ pO _ _ HBs.out 0 own m R3.out R4.out LOWN.out).mono ?_
      rintro e w6 ⟨ad6, c6, rfl, L6, B6⟩
      have HB6 := Lib.hid (bel_step HB5.out B6)
      have HO6 := Lib.hid (HO5.out.later B6)
      have HBs6 := Lib.hid (HBs.out.below B6)
      have HL6 := Lib.hid L6
      clear L6 B6
      go_wp2_with fail
      refine (Sm.same_self _ _ _ _ _ _ own _ (by omega) HL6.out.1 HO6.out.1).mono ?_
      rintro e w7 ⟨rfl, B7⟩
      have HB7 := Lib.hid (bel_step HB6.out B7)
      have HBs7 := Lib.hid (HBs6.out.below B7)
      clear B7
      go_wp2_with fail
      refine (Bt.spare_t _ _ _ pO _ _ HBs7.out 0 R5.out).mono ?_
      rintro e w8 ⟨rfl, B8⟩
      have HB8 := Lib.hid (bel_step HB7.out B8)
      clear B8
      go_wp2_with (go_at_call 53; refine (Bt.lives7_any _).mono ?_; rintro e wb ⟨rfl, hbb⟩)
      go_ret
      exact ⟨rfl, bel_step HB8.out hbb⟩
  · have kd : min (len0 : Int) 60 = 60 := by omega
    clear h
    go_enter Try.func8, Try.ntmps8
    go_wp2_with fail
    refine (Bt.ones_t a0 60 cap0 60 la _ HA.out (by omega) own 60 HOWN.out LOWN.out).mono ?_
    rintro e w1 ⟨ad1, c1, rfl, L1, B1⟩
    have HL1 := Lib.hid L1; have HB1 := Lib.hid B1; have HA1 := Lib.hid (HA.out.later B1)
    clear L1 B1
    go_wp2_with fail
    refine (Bt.pack_t _ _ _ la _ HA1.out eL pL nL EL.out PL.out NL.out).mono ?_
    rintro e w2 ⟨ad2, c2, rfl, L2, B2⟩
    have HL2 := Lib.hid L2; have HB2 := Lib.hid (bel_step HB1.out B2); have HA2 := Lib.hid (HA1.out.later B2); have HO2 := Lib.hid (HL1.out.later B2)
    clear L2 B2
    go_wp2_with fail
    refine (Bt.refPack_t _ _ _ la _ HA2.out HI.out eL pL nL EL.out PL.out NL.out).mono ?_
    rintro e w3 ⟨ad3, c3, rfl, L3, B3⟩
    have HL3 := Lib.hid L3; have HB3 := Lib.hid (bel_step HB2.out B3); have HL23 := Lib.hid (HL2.out.later B3); have HO3 := Lib.hid (HO2.out.later B3)
    clear L3 B3
    go_wp2_with fail
    refine (Bt.pack_t _ _ _ own _ HO3.out eO pO nO EO.out PO.out NO.out).mono ?_
    rintro e w4 ⟨ad4, c4, rfl, L4, B4⟩
    have HL4 := Lib.hid L4; have HB4 := Lib.hid (bel_step HB3.out B4); have HL24 := Lib.hid (HL23.out.later B4); have HL34 := Lib.hid (HL3.out.later B4); have HO4 := Lib.hid (HO3.out.later B4)
    clear L4 B4
    go_wp2_with fail
    refine (Bt.refPack_t _ _ _ own _ HO4.out (Bt.ones_I OO.out) eO pO nO EO.out PO.out NO.out).mono ?_
    rintro e w5 ⟨ad5, c5, rfl, L5, B5⟩
    have HB5 := Lib.hid (bel_step HB4.out B5)
    have HO5 := Lib.hid (HO4.out.later B5)
    have HC5 := Lib.hid (HL4.out.later B5)
    have C2 := Cv.conv_slk (cap := c2) (HL24.out.later B5).1
    have C3 := Cv.conv_slk (cap := c3) (HL34.out.later B5).1
    have C4 := Cv.conv_slk (cap := c4) HC5.out.1
    have C5 := Cv.conv_slk (cap := c5) L5.1
    rw [SL.out] at C2 C3
    rw [SO.out] at C4 C5
    clear L5 B5
    obtain ⟨-, b1, b2, b3, b4, b5⟩ := Bt.pack_back OO.out (by rw [LOWN.out]; omega) (by rw [LOWN.out]; omega)
    rw [LOWN.out] at b3 b4 b5
    rw [b1] at PO
    have e0 : eO = 0 := by rw [← EO.out, b2]
    subst e0
    rw [PO.out] at b3 b4 b5
    rw [NO.out] at b3
    have HBs : Hid (Bt.Bs w5 ad4 nO c4 pO) := Lib.hid (by have := HC5.out; rw [← PO.out, ← b1] at this ⊢; exact Bt.bs_of this)
    have R3 := Lib.hid b3; have R4 := Lib.hid b4; have R5 := Lib.hid b5
    clear b1 b2 b3 b4 b5
    go_wp2_with fail
    refine (Bt.unpack_t _ _ _ pO _ _ HBs.out 0 own 60 R3.out R4.out LOWN.out).mono ?_
    rintro e w6 ⟨ad6, c6, rfl, L6, B6⟩
    have HB6 := Lib.hid (bel_step HB5.out B6)
    have HO6 := Lib.hid (HO5.out.later B6)
    have HBs6 := Lib.hid (HBs.out.below B6)
    have HL6 := Lib.hid L6
    clear L6 B6
    go_wp2_with fail
    refine (Sm.same_self _ _ _ _ _ _ own _ (by omega) HL6.out.1 HO6.out.1).mono ?_
    rintro e w7 ⟨rfl, B7⟩
    have HB7 := Lib.hid (bel_step HB6.out B7)
    have HBs7 := Lib.hid (HBs6.out.below B7)
    clear B7
    go_wp2_with fail
    refine (Bt.spare_t _ _ _ pO _ _ HBs7.out 0 R5.out).mono ?_
    rintro e w8 ⟨rfl, B8⟩
    have HB8 := Lib.hid (bel_step HB7.out B8)
    clear B8
    go_wp2_with (go_at_call 53; refine (Bt.lives7_any _).mono ?_; rintro e wb ⟨rfl, hbb⟩)
    go_ret
    exact ⟨rfl, bel_step HB8.out hbb⟩
end Go.Proofs.Ytjjpnipcpnkakaa

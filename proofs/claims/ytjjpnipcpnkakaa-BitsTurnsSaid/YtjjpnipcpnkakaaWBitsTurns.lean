/- BitsTurns: a row from its end on is the document's, and, twice, as it was but for spare bits: the walk of the law. No condition. -/
import Derived.Test.YtjjpnipcpnkakaaBtT
import Derived.Deep.LoopGhost
namespace Go.Proofs.Ytjjpnipcpnkakaa
open Go.RowKit Go.Shelf
set_option linter.unusedVariables false
namespace Bt
theorem turned_t (a : Option Addr) (n cap : Nat) (zs : List Int) (W : Int) (w : World) (h : Bs w a n cap zs) (h0 : rowE n W = 0) (l : List Int) (hl : unpackV zs W = l) (xs : List Int) (m : Nat) (he : packE l.reverse = 0) (hx : packV l.reverse = xs) (hm : xs.length = m) :
    Calls Try.prog 63 #[.slice a n cap, .int .i64 W] w fun e w' => ∃ ad c, e = .returned (.tuple #[.slice ad m c, .int .i64 0]) ∧ Ls .u8 w' ad m c xs ∧ Below w.heap.size w w' := by
  refine (turned_yes a n cap zs W w h h0).mono ?_
  rintro e w' hr
  rw [hl] at hr
  obtain ⟨ad, c, rfl, hr, hb⟩ := hr
  rw [hx] at hr ⊢
  rw [hm] at hr ⊢
  rw [he]
  exact ⟨ad, c, rfl, ls_of hm hr, hb⟩
end Bt
set_option maxRecDepth 100000 in
set_option maxHeartbeats 16000000 in
theorem bitsTurns_walk (a0 : Option Addr) (len0 cap0 : Nat) (z0 : List Int) (a1 : Int) (w : World) (w0 : IsRow .u8 w a0 len0 cap0 z0) (w1 : (Lit.int .i64 a1).wf = true) :
    Calls Try.prog 11 #[.slice a0 len0 cap0, .int .i64 a1] w fun e w' => e = .returned (.bool true) ∧ Below w.heap.size w w' := by
  have h1 := Lib.hid (wfI w1)
  obtain ⟨l1, l2, l3, l4⟩ := isrow_len w0
  obtain ⟨m, hmm⟩ : ∃ m, ((len0 ≤ 12 ∧ m = len0) ∨ (12 < len0 ∧ m = 12)) := ⟨min len0 12, by omega⟩
  have hm1 : m ≤ len0 := by omega
  have hm12 : m ≤ 12 := by omega
  have HS := Lib.hid (Bt.bs_in w0 m hm1)
  generalize z0.take m = zs at HS
  obtain ⟨ar0, ar1⟩ := Ar.around_lt a1 101 (by omega)
  obtain ⟨ar, har⟩ : ∃ k, Hid (Ar.around a1 101 = k) := ⟨_, rfl⟩
  rw [har.out] at ar0 ar1
  clear w0 w1 l2 hm1
  rcases hmm with ⟨h, rfl⟩ | ⟨h, rfl⟩
  · have kd : min (m : Int) 12 = m := by omega
    clear h
    go_enter Try.func11, Try.ntmps11
    go_wp2_with (go_at_call 36; refine (aroundOf a1 101 h1.out.1 h1.out.2 (by omega) (by omega) _).mono ?_; rw [har.out]; rintro e w1 ⟨rfl, rfl⟩)
    obtain ⟨W2, hW2⟩ : ∃ W2, w.alloc (.cells #[.int .i64 a1, .int .i64 ar] 3) = W2 := ⟨_, rfl⟩
    have hcl : ∀ k, k < 2 → ∃ V : Int, -9223372036854775808 ≤ V ∧ V ≤ 9223372036854775807 ∧ W2.cell? ⟨w.heap.size, k, none⟩ = some (.int .i64 V) := fun k hk => by
      rw [← hW2]
      obtain rfl | rfl : k = 0 ∨ k = 1 := by omega
      · exact ⟨a1, h1.out.1, h1.out.2, by simp [go_sem]⟩
      · exact ⟨ar, by omega, by omega, by simp [go_sem]⟩
    have HCL := Lib.hid hcl
    have hb0 : Below w.heap.size w W2 := by rw [← hW2]; exact (Below.refl _ w).alloc (Nat.le_refl _) _
    have HB0 := Lib.hid hb0
    have HS2 := Lib.hid (HS.out.below hb0)
    have hs2 : w.heap.size < W2.heap.size := by rw [← hW2]; simp
    rw [hW2]
    clear hcl hb0 hW2 h1
    go_loopg [6] 2 (fun g s6 wr => ∃ k : Nat, k + g = 2 ∧ s6 = .int .i64 k ∧ Below W2.heap.size W2 wr)
    case atStart => exact ⟨0, rfl, rfl, Below.refl _ _⟩
    case round =>
      obtain ⟨k, hk, rfl, hB⟩ := hrel
      have k0 : (0 : Int) ≤ k := Int.natCast_nonneg _
      have HB := Lib.hid hB
      clear hB
      cases gk with
      | zero =>
        obtain rfl : k = 2 := by omega
        rw [show ((2 : Nat) : Int) = 2 from rfl]
        go_wp2_with (go_at_call 53; refine (Bt.lives7_any _).mono ?_; rintro e wb ⟨rfl, hbb⟩)
        go_ret
        exact ⟨rfl, bel_step (bel_step HB0.out HB.out) hbb⟩
      | succ g =>
        have hk2 : (k : Int) < 2 := by omega
        obtain ⟨V, V0, V1, hcV⟩ := HCL.out k (by omega)
        have HCV := Lib.hid hcV
        have hcv := cell_later HB.out hcV
        clear hcV
        by_cases hr : Bt.rowE m V = 0
        · obtain ⟨P, hVP, hPl, hP1, hP9⟩ := Bt.unpackV_len (zs := zs) (W := V) (by rw [HS.out.1.1]; exact hr)
          obtain ⟨xs, hxs⟩ : ∃ xs, Bt.unpackV zs V = xs := ⟨_, rfl⟩
          have oX : Bt.Ones xs := by rw [← hxs]; exact Bt.unpackV_01 _ _
          rw [hxs] at hPl
          have lR : xs.reverse.length = P := by rw [List.length_reverse]; exact hPl
          obtain ⟨-, b1, b2, b3, b4, -⟩ := Bt.pack_back (Bt.ones_rev oX) (by omega) (by omega)
          obtain ⟨-, d1, d2, -, -, -⟩ := Bt.pack_back oX (by omega) (by omega)
          rw [lR] at b3 b4
          rw [← hVP] at b3 b4
          obtain ⟨PT, hPT⟩ : ∃ PT, Bt.packB xs.reverse = PT := ⟨_, rfl⟩
          obtain ⟨PX, hPX⟩ : ∃ PX, Bt.packB xs = PX := ⟨_, rfl⟩
          obtain ⟨nT, hnT⟩ : ∃ nT, PT.length = nT := ⟨_, rfl⟩
          obtain ⟨nX, hnX⟩ : ∃ nX, PX.length = nX := ⟨_, rfl⟩
          obtain ⟨sT, hsT⟩ : ∃ sT, strOfNums PT = sT := ⟨_, rfl⟩
          obtain ⟨sX, hsX⟩ : ∃ sX, strOfNums PX = sX := ⟨_, rfl⟩
          rw [hPT] at b1 b3 b4
          rw [hnT] at b3
          rw [hPX] at d1
          have HVP := Lib.hid hVP; have HR := Lib.hid hr; have HXS := Lib.hid hxs; have LX := Lib.hid hPl; have LR := Lib.hid lR; have OX := Lib.hid oX
          have R1 := Lib.hid b1; have R2 := Lib.hid b2; have R3 := Lib.hid b3; have R4 := Lib.hid b4; have D1 := Lib.hid d1; have D2 := Lib.hid d2
          have NT := Lib.hid hnT; have NX := Lib.hid hnX; have ST := Lib.hid hsT; have SX := Lib.hid hsX
          clear hVP hr hxs hPl lR oX b1 b2 b3 b4 d1 d2 hPT hPX hnT hnX hsT hsX
          obtain ⟨i0, hi, hz0, hz1, hz2⟩ := info_parts Bt.Try.info_int
          go_wp2_with fail
          refine (Bt.turned_t _ _ _ zs V _ (HS2.out.below HB.out) HR.out xs HXS.out PT nT R2.out R1.out NT.out).mono ?_
          rintro e w3 ⟨ad3, c3, rfl, L, B⟩
          have hcv3 := cell_later B hcv
          have HB3 := Lib.hid (bel_step HB.out B)
          have HT := Lib.hid L
          clear L B hcv
          go_wp2_with fail
          refine (Bt.refUnpack_t _ _ _ zs V _ (HS2.out.below HB3.out) 0 xs P HR.out HXS.out LX.out).mono ?_
          rintro e w4 ⟨ad4, c4, rfl, L, B⟩
          have hcv4 := cell_later B hcv3
          have HB4 := Lib.hid (bel_step HB3.out B)
          have HT4 := Lib.hid (HT.out.later B)
          have HL := Lib.hid L
          have hs4 := HB4.out.size
          have HBw := Lib.hid (Below.refl w4.heap.size w4)
          have HCV4 := Lib.hid hcv4
          clear L B hcv3 hcv4
          go_wp2
          go_loopg [11, 12] P (fun g s11 s12 wr => ∃ j : Nat, j + g = P ∧ s12 = .int .i64 ((P : Int) - 1 - j) ∧ wr.ownsRow w4.heap.size 3 1 s11 j ((xs.reverse.take j).map (Value.int .i64)) ∧ Below w4.heap.size w4 wr)
          case atStart => exact ⟨0, by omega, by simp, World.ownsRow_nil _ _ _ _, HBw.out⟩
          case round =>
            obtain ⟨j, hj, rfl, hrow, hB⟩ := hrel
            have j0 : (0 : Int) ≤ j := Int.natCast_nonneg _
            cases gk with
            | zero =>
              obtain rfl : j = P := by omega
              have hI : (j : Int) - 1 - j = -1 := by omega
              obtain ⟨ad5, c5, rfl, -, -⟩ := ownK_row (by rw [List.length_take, LR.out]; omega) hrow
              have L := Bt.ls_of (q := .i64) (by rw [List.length_take, LR.out]; omega) hrow
              rw [List.take_of_length_le (by rw [LR.out]; omega)] at L
              have HV := Lib.hid L
              have HB5 := Lib.hid (bel_step HB4.out hB)
              have HT5 := Lib.hid (HT4.out.later hB)
              have HL5 := Lib.hid (HL.out.later hB)
              have hcv5 := cell_later hB HCV4.out
              clear L hrow hB hj
              rw [hI]
              clear hI
              go_wp2_with fail
              refine (Bt.refPack_t _ _ _ xs.reverse _ HV.out (Bt.ones_I (Bt.ones_rev OX.out)) 0 PT nT R2.out R1.out NT.out).mono ?_
              rintro e w6 ⟨ad6, c6, rfl, L, B⟩
              have HB6 := Lib.hid (bel_step HB5.out B)
              have HT6 := Lib.hid (HT5.out.later B)
              have HL6 := Lib.hid (HL5.out.later B)
              have hcv6 := cell_later B hcv5
              have HK6 := Lib.hid L
              clear L B hcv5
              have HTB := Lib.hid (show Bt.Bs w6 ad3 nT c3 PT by have := HT6.out; rw [← R1.out] at this ⊢; exact Bt.bs_of this)
              go_wp2_with fail
              refine (Bt.turned_t _ _ _ PT V _ HTB.out R3.out xs.reverse R4.out PX nX (by rw [List.reverse_reverse]; exact D2.out) (by rw [List.reverse_reverse]; exact D1.out) NX.out).mono ?_
              rintro e w7 ⟨ad7, c7, rfl, L, B⟩
              have HB7 := Lib.hid (bel_step HB6.out B)
              have HT7 := Lib.hid (HT6.out.later B)
              have HL7 := Lib.hid (HL6.out.later B)
              have HK7 := Lib.hid (HK6.out.later B)
              have HM7 := Lib.hid L
              clear L B hcv6
              go_wp2_with fail
              refine (Bt.refPack_t _ _ _ xs _ HL7.out (Bt.ones_I OX.out) 0 PX nX D2.out D1.out NX.out).mono ?_
              rintro e w8 ⟨ad8, c8, rfl, L, B⟩
              have HB8 := Lib.hid (bel_step HB7.out B)
              have C3 := Cv.conv_slk (cap := c3) (HT7.out.later B).1
              have C6 := Cv.conv_slk (cap := c6) (HK7.out.later B).1
              have C7 := Cv.conv_slk (cap := c7) (HM7.out.later B).1
              have C8 := Cv.conv_slk (cap := c8) L.1
              rw [ST.out] at C3 C6
              rw [SX.out] at C7 C8
              clear L B
              go_wp2
              go_roundg g
              case measure => omega
              case rel => exact ⟨k + 1, by omega, by go_num, HB8.out⟩
            | succ g2 =>
              obtain ⟨q, hq⟩ : ∃ q : Nat, (P : Int) - 1 - j = q := ⟨P - 1 - j, by omega⟩
              have hq0 : (0 : Int) ≤ q := Int.natCast_nonneg _
              have hqP : (q : Int) < P := by omega
              have hqn : q = P - 1 - j := by omega
              have hW := hB.size
              rcases HL.out.1.2 with h0 | ⟨b, o, rfl, hc⟩
              · omega
              have hc := cell_later hB (hc q (by omega))
              have hgr : xs.reverse.getD j 0 = xs.getD q 0 := by
                rw [List.getD_eq_getElem?_getD, List.getD_eq_getElem?_getD, List.getElem?_reverse (by rw [LX.out]; omega), LX.out, hqn]
              obtain ⟨x, hx⟩ : ∃ x, xs.getD q 0 = x := ⟨_, rfl⟩
              rw [hx] at hc hgr
              have htk := Bt.take_push xs.reverse j (by rw [LR.out]; omega)
              rw [hgr] at htk
              have HTK := Lib.hid htk; have HQ := Lib.hid hq; have HRW := Lib.hid hrow
              rw [hq]
              clear htk hq hqn hgr hx hrow
              go_wp2_with (at_builtin; refine wpList_append_own _ rfl _ _ 74 rfl w4.heap.size 3 i0 (.int .i64 0) 1 8 Try.underlying74 hi hz0 hz1 hz2 rfl (by decide) _ j _ rfl (HRW.out.alloc _) ⟨wr.heap.size, 0, none⟩ 1 1 [.int .i64 x] rfl rfl (cell_one_new _ _ _) (by simp [Value.oneCell']) (by unfold maxLen; omega) (by omega) (by simp; omega) ?_; intro v' w5 hown' hgrow _; have HO5 := Lib.hid hown'; have hB5 := ((hB.alloc hW _).grown hgrow (by simp; omega) (fun j ej => (HRW.out.lt j ej).1)); clear hown' hgrow)
              go_roundg g2
              case measure => omega
              case rel =>
                have := HO5.out
                rw [HTK.out] at this
                exact ⟨j + 1, by omega, by have := HQ.out; go_num, this, hB5⟩
        · have hrb : (Bt.rowE m V != 0) = true := by simpa using hr
          have hun : Bt.unpackV zs V = [] := by unfold Bt.unpackV; rw [HS.out.1.1, if_neg hr]
          have HR := Lib.hid hr
          obtain ⟨er, her⟩ : ∃ er, Bt.rowE m V = er := ⟨_, rfl⟩
          rw [her] at hrb
          have HE := Lib.hid her
          have HU := Lib.hid hun
          clear hr her hun
          go_wp2_with fail
          refine (Bt.turned_no _ _ _ zs V _ (HS2.out.below HB.out) HR.out).mono ?_
          rw [HE.out]
          rintro e w3 ⟨rfl, B⟩
          have hcv3 := cell_later B hcv
          have HB3 := Lib.hid (bel_step HB.out B)
          clear B hcv
          go_wp2_with fail
          refine (Bt.refUnpack_t _ _ _ zs V _ (HS2.out.below HB3.out) er [] 0 HE.out HU.out rfl).mono ?_
          rintro e w4 ⟨ad4, c4, rfl, L, B⟩
          have HB4 := Lib.hid (bel_step HB3.out B)
          clear L B hcv3
          go_wp2
          go_roundg g
          case measure => omega
          case rel => exact ⟨k + 1, by omega, by go_num, HB4.out⟩
  · have kd : min (len0 : Int) 12 = 12 := by omega
    clear h
    go_enter Try.func11, Try.ntmps11
    go_wp2_with (go_at_call 36; refine (aroundOf a1 101 h1.out.1 h1.out.2 (by omega) (by omega) _).mono ?_; rw [har.out]; rintro e w1 ⟨rfl, rfl⟩)
    obtain ⟨W2, hW2⟩ : ∃ W2, w.alloc (.cells #[.int .i64 a1, .int .i64 ar] 3) = W2 := ⟨_, rfl⟩
    have hcl : ∀ k, k < 2 → ∃ V : Int, -9223372036854775808 ≤ V ∧ V ≤ 9223372036854775807 ∧ W2.cell? ⟨w.heap.size, k, none⟩ = some (.int .i64 V) := fun k hk => by
      rw [← hW2]
      obtain rfl | rfl : k = 0 ∨ k = 1 := by omega
      · exact ⟨a1, h1.out.1, h1.out.2, by simp [go_sem]⟩
      · exact ⟨ar, by omega, by omega, by simp [go_sem]⟩
    have HCL := Lib.hid hcl
    have hb0 : Below w.heap.size w W2 := by rw [← hW2]; exact (Below.refl _ w).alloc (Nat.le_refl _) _
    have HB0 := Lib.hid hb0
    have HS2 := Lib.hid (HS.out.below hb0)
    have hs2 : w.heap.size < W2.heap.size := by rw [← hW2]; simp
    rw [hW2]
    clear hcl hb0 hW2 h1
    go_loopg [6] 2 (fun g s6 wr => ∃ k : Nat, k + g = 2 ∧ s6 = .int .i64 k ∧ Below W2.heap.size W2 wr)
    case atStart => exact ⟨0, rfl, rfl, Below.refl _ _⟩
    case round =>
      obtain ⟨k, hk, rfl, hB⟩ := hrel
      have k0 : (0 : Int) ≤ k := Int.natCast_nonneg _
      have HB := Lib.hid hB
      clear hB
      cases gk with
      | zero =>
        obtain rfl : k = 2 := by omega
        rw [show ((2 : Nat) : Int) = 2 from rfl]
        go_wp2_with (go_at_call 53; refine (Bt.lives7_any _).mono ?_; rintro e wb ⟨rfl, hbb⟩)
        go_ret
        exact ⟨rfl, bel_step (bel_step HB0.out HB.out) hbb⟩
      | succ g =>
        have hk2 : (k : Int) < 2 := by omega
        obtain ⟨V, V0, V1, hcV⟩ := HCL.out k (by omega)
        have HCV := Lib.hid hcV
        have hcv := cell_later HB.out hcV
        clear hcV
        by_cases hr : Bt.rowE 12 V = 0
        · obtain ⟨P, hVP, hPl, hP1, hP9⟩ := Bt.unpackV_len (zs := zs) (W := V) (by rw [HS.out.1.1]; exact hr)
          obtain ⟨xs, hxs⟩ : ∃ xs, Bt.unpackV zs V = xs := ⟨_, rfl⟩
          have oX : Bt.Ones xs := by rw [← hxs]; exact Bt.unpackV_01 _ _
          rw [hxs] at hPl
          have lR : xs.reverse.length = P := by rw [List.length_reverse]; exact hPl
          obtain ⟨-, b1, b2, b3, b4, -⟩ := Bt.pack_back (Bt.ones_rev oX) (by omega) (by omega)
          obtain ⟨-, d1, d2, -, -, -⟩ := Bt.pack_back oX (by omega) (by omega)
          rw [lR] at b3 b4
          rw [← hVP] at b3 b4
          obtain ⟨PT, hPT⟩ : ∃ PT, Bt.packB xs.reverse = PT := ⟨_, rfl⟩
          obtain ⟨PX, hPX⟩ : ∃ PX, Bt.packB xs = PX := ⟨_, rfl⟩
          obtain ⟨nT, hnT⟩ : ∃ nT, PT.length = nT := ⟨_, rfl⟩
          obtain ⟨nX, hnX⟩ : ∃ nX, PX.length = nX := ⟨_, rfl⟩
          obtain ⟨sT, hsT⟩ : ∃ sT, strOfNums PT = sT := ⟨_, rfl⟩
          obtain ⟨sX, hsX⟩ : ∃ sX, strOfNums PX = sX := ⟨_, rfl⟩
          rw [hPT] at b1 b3 b4
          rw [hnT] at b3
          rw [hPX] at d1
          have HVP := Lib.hid hVP; have HR := Lib.hid hr; have HXS := Lib.hid hxs; have LX := Lib.hid hPl; have LR := Lib.hid lR; have OX := Lib.hid oX
          have R1 := Lib.hid b1; have R2 := Lib.hid b2; have R3 := Lib.hid b3; have R4 := Lib.hid b4; have D1 := Lib.hid d1; have D2 := Lib.hid d2
          have NT := Lib.hid hnT; have NX := Lib.hid hnX; have ST := Lib.hid hsT; have SX := Lib.hid hsX
          clear hVP hr hxs hPl lR oX b1 b2 b3 b4 d1 d2 hPT hPX hnT hnX hsT hsX
          obtain ⟨i0, hi, hz0, hz1, hz2⟩ := info_parts Bt.Try.info_int
          go_wp2_with fail
          refine (Bt.turned_t _ _ _ zs V _ (HS2.out.below HB.out) HR.out xs HXS.out PT nT R2.out R1.out NT.out).mono ?_
          rintro e w3 ⟨ad3, c3, rfl, L, B⟩
          have hcv3 := cell_later B hcv
          have HB3 := Lib.hid (bel_step HB.out B)
          have HT := Lib.hid L
          clear L B hcv
          go_wp2_with fail
          refine (Bt.refUnpack_t _ _ _ zs V _ (HS2.out.below HB3.out) 0 xs P HR.out HXS.out LX.out).mono ?_
          rintro e w4 ⟨ad4, c4, rfl, L, B⟩
          have hcv4 := cell_later B hcv3
          have HB4 := Lib.hid (bel_step HB3.out B)
          have HT4 := Lib.hid (HT.out.later B)
          have HL := Lib.hid L
          have hs4 := HB4.out.size
          have HBw := Lib.hid (Below.refl w4.heap.size w4)
          have HCV4 := Lib.hid hcv4
          clear L B hcv3 hcv4
          go_wp2
          go_loopg [11, 12] P (fun g s11 s12 wr => ∃ j : Nat, j + g = P ∧ s12 = .int .i64 ((P : Int) - 1 - j) ∧ wr.ownsRow w4.heap.size 3 1 s11 j ((xs.reverse.take j).map (Value.int .i64)) ∧ Below w4.heap.size w4 wr)
          case atStart => exact ⟨0, by omega, by simp, World.ownsRow_nil _ _ _ _, HBw.out⟩
          case round =>
            obtain ⟨j, hj, rfl, hrow, hB⟩ := hrel
            have j0 : (0 : Int) ≤ j := Int.natCast_nonneg _
            cases gk with
            | zero =>
              obtain rfl : j = P := by omega
              have hI : (j : Int) - 1 - j = -1 := by omega
              obtain ⟨ad5, c5, rfl, -, -⟩ := ownK_row (by rw [List.length_take, LR.out]; omega) hrow
              have L := Bt.ls_of (q := .i64) (by rw [List.length_take, LR.out]; omega) hrow
              rw [List.take_of_length_le (by rw [LR.out]; omega)] at L
              have HV := Lib.hid L
              have HB5 := Lib.hid (bel_step HB4.out hB)
              have HT5 := Lib.hid (HT4.out.later hB)
              have HL5 := Lib.hid (HL.out.later hB)
              have hcv5 := cell_later hB HCV4.out
              clear L hrow hB hj
              rw [hI]
              clear hI
              go_wp2_with fail
              refine (Bt.refPack_t _ _ _ xs.reverse _ HV.out (Bt.ones_I (Bt.ones_rev OX.out)) 0 PT nT R2.out R1.out NT.out).mono ?_
              rintro e w6 ⟨ad6, c6, rfl, L, B⟩
              have HB6 := Lib.hid (bel_step HB5.out B)
              have HT6 := Lib.hid (HT5.out.later B)
              have HL6 := Lib.hid (HL5.out.later B)
              have hcv6 := cell_later B hcv5
              have HK6 := Lib.hid L
              clear L B hcv5
              have HTB := Lib.hid (show Bt.Bs w6 ad3 nT c3 PT by have := HT6.out; rw [← R1.out] at this ⊢; exact Bt.bs_of this)
              go_wp2_with fail
              refine (Bt.turned_t _ _ _ PT V _ HTB.out R3.out xs.reverse R4.out PX nX (by rw [List.reverse_reverse]; exact D2.out) (by rw [List.reverse_reverse]; exact D1.out) NX.out).mono ?_
              rintro e w7 ⟨ad7, c7, rfl, L, B⟩
              have HB7 := Lib.hid (bel_step HB6.out B)
              have HT7 := Lib.hid (HT6.out.later B)
              have HL7 := Lib.hid (HL6.out.later B)
              have HK7 := Lib.hid (HK6.out.later B)
              have HM7 := Lib.hid L
              clear L B hcv6
              go_wp2_with fail
              refine (Bt.refPack_t _ _ _ xs _ HL7.out (Bt.ones_I OX.out) 0 PX nX D2.out D1.out NX.out).mono ?_
              rintro e w8 ⟨ad8, c8, rfl, L, B⟩
              have HB8 := Lib.hid (bel_step HB7.out B)
              have C3 := Cv.conv_slk (cap := c3) (HT7.out.later B).1
              have C6 := Cv.conv_slk (cap := c6) (HK7.out.later B).1
              have C7 := Cv.conv_slk (cap := c7) (HM7.out.later B).1
              have C8 := Cv.conv_slk (cap := c8) L.1
              rw [ST.out] at C3 C6
              rw [SX.out] at C7 C8
              clear L B
              go_wp2
              go_roundg g
              case measure => omega
              case rel => exact ⟨k + 1, by omega, by go_num, HB8.out⟩
            | succ g2 =>
              obtain ⟨q, hq⟩ : ∃ q : Nat, (P : Int) - 1 - j = q := ⟨P - 1 - j, by omega⟩
              have hq0 : (0 : Int) ≤ q := Int.natCast_nonneg _
              have hqP : (q : Int) < P := by omega
              have hqn : q = P - 1 - j := by omega
              have hW := hB.size
              rcases HL.out.1.2 with h0 | ⟨b, o, rfl, hc⟩
              · omega
              have hc := cell_later hB (hc q (by omega))
              have hgr : xs.reverse.getD j 0 = xs.getD q 0 := by
                rw [List.getD_eq_getElem?_getD, List.getD_eq_getElem?_getD, List.getElem?_reverse (by rw [LX.out]; omega), LX.out, hqn]
              obtain ⟨x, hx⟩ : ∃ x, xs.getD q 0 = x := ⟨_, rfl⟩
              rw [hx] at hc hgr
              have htk := Bt.take_push xs.reverse j (by rw [LR.out]; omega)
              rw [hgr] at htk
              have HTK := Lib.hid htk; have HQ := Lib.hid hq; have HRW := Lib.hid hrow
              rw [hq]
              clear htk hq hqn hgr hx hrow
              go_wp2_with (at_builtin; refine wpList_append_own _ rfl _ _ 74 rfl w4.heap.size 3 i0 (.int .i64 0) 1 8 Try.underlying74 hi hz0 hz1 hz2 rfl (by decide) _ j _ rfl (HRW.out.alloc _) ⟨wr.heap.size, 0, none⟩ 1 1 [.int .i64 x] rfl rfl (cell_one_new _ _ _) (by simp [Value.oneCell']) (by unfold maxLen; omega) (by omega) (by simp; omega) ?_; intro v' w5 hown' hgrow _; have HO5 := Lib.hid hown'; have hB5 := ((hB.alloc hW _).grown hgrow (by simp; omega) (fun j ej => (HRW.out.lt j ej).1)); clear hown' hgrow)
              go_roundg g2
              case measure => omega
              case rel =>
                have := HO5.out
                rw [HTK.out] at this
                exact ⟨j + 1, by omega, by have := HQ.out; go_num, this, hB5⟩
        · have hrb : (Bt.rowE 12 V != 0) = true := by simpa using hr
          have hun : Bt.unpackV zs V = [] := by unfold Bt.unpackV; rw [HS.out.1.1, if_neg hr]
          have HR := Lib.hid hr
          obtain ⟨er, her⟩ : ∃ er, Bt.rowE 12 V = er := ⟨_, rfl⟩
          rw [her] at hrb
          have HE := Lib.hid her
          have HU := Lib.hid hun
          clear hr her hun
          go_wp2_with fail
          refine (Bt.turned_no _ _ _ zs V _ (HS2.out.below HB.out) HR.out).mono ?_
          rw [HE.out]
          rintro e w3 ⟨rfl, B⟩
          have hcv3 := cell_later B hcv
          have HB3 := Lib.hid (bel_step HB.out B)
          clear B hcv
          go_wp2_with fail
          refine (Bt.refUnpack_t _ _ _ zs V _ (HS2.out.below HB3.out) er [] 0 HE.out HU.out rfl).mono ?_
          rintro e w4 ⟨ad4, c4, rfl, L, B⟩
          have HB4 := Lib.hid (bel_step HB3.out B)
          clear L B hcv3
          go_wp2
          go_roundg g
          case measure => omega
          case rel => exact ⟨k + 1, by omega, by go_num, HB4.out⟩
end Go.Proofs.Ytjjpnipcpnkakaa

/- TokenParts: a number's reader tells more, till the byte that ends it: the walk of the law. No condition. -/
import Derived.Test.YteonfgphihacgaaTokH
import Derived.Test.YteonfgphihacgaaTokP
import Derived.Deep.RegionHeld3
import Derived.Deep.DeepCutAuto
namespace Go.Proofs.Yteonfgphihacgaa
open Go.RowKit
set_option linter.unusedVariables false

/-- the bytes that are blanks, by number -/
def Tk.bl6 (j : Nat) : Int := if j = 0 then 9 else if j = 1 then 10 else if j = 2 then 11 else if j = 3 then 12 else if j = 4 then 13 else 32
theorem Tk.bl6_blank (j : Nat) : blank (bl6 j) = true := by unfold bl6; repeat' split
                                                            all_goals rfl
theorem Tk.bl6_byte (j : Nat) : 0 ≤ bl6 j ∧ bl6 j ≤ 255 := by unfold bl6; repeat' split
                                                              all_goals omega
theorem around6 (a : Int) : ∃ j : Nat, j < 6 ∧ Ar.around a 6 = (j : Int) := by
  obtain ⟨h0, h1⟩ := Ar.around_lt a 6 (by omega)
  exact ⟨(Ar.around a 6).toNat, by omega, by omega⟩
theorem emp_app (D : ByteArray) : (⟨#[]⟩ : ByteArray) ++ D = D := by apply ByteArray.ext; simp
theorem six {j : Nat} (h : j < 6) : j = 0 ∨ j = 1 ∨ j = 2 ∨ j = 3 ∨ j = 4 ∨ j = 5 := by omega
set_option maxRecDepth 100000 in
set_option maxHeartbeats 8000000 in
theorem tokenParts_walk (a0 a1 a2 a3 : Int) (w : World) (w0 : (Lit.int .i64 a0).wf = true) (w1 : (Lit.int .i64 a1).wf = true) (w2 : (Lit.int .i64 a2).wf = true) (w3 : (Lit.int .u8 a3).wf = true) :
    Calls Try.prog 7 #[.int .i64 a0, .int .i64 a1, .int .i64 a2, .int .u8 a3] w fun e w' => e = .returned (.bool true) ∧ Below w.heap.size w w' := by
  have h0 := Lib.hid (wfI w0)
  have h1 := Lib.hid (wfI w1)
  have h2 := Lib.hid (wfI w2)
  have h3 := Lib.hid (wfB w3)
  obtain ⟨m0, m1⟩ := Nu.limit_lt a0
  obtain ⟨k, hk⟩ : ∃ k, Nu.limit a0 = k := ⟨_, rfl⟩
  rw [hk] at m0 m1
  have HK := Lib.hid hk
  have M0 := Lib.hid m0
  have M1 := Lib.hid m1
  obtain ⟨r, hr, hre⟩ := around6 a1
  obtain ⟨j, hj, hje⟩ := around6 a2
  have HA : Hid (∀ W, Calls Try.prog 29 #[.int .i64 a1, .int .i64 6] W fun e w' => e = .returned (.int .i64 (r : Int)) ∧ W = w') := fun W => by have := aroundOf a1 6 h1.out.1 h1.out.2 (by omega) (by omega) W; rw [hre] at this; exact this
  have HJ : Hid (∀ W, Calls Try.prog 29 #[.int .i64 a2, .int .i64 6] W fun e w' => e = .returned (.int .i64 (j : Int)) ∧ W = w') := fun W => by have := aroundOf a2 6 h2.out.1 h2.out.2 (by omega) (by omega) W; rw [hje] at this; exact this
  have hkI : Nu.I k := by unfold Nu.I; omega
  have HD := Lib.hid (refDecimal_any k hkI)
  have HDG := Lib.hid (Tk.digs_noughts (m := k) m0 (Int.le_refl k) r)
  have HBY : Hid (bytesOf (strOfNums (List.replicate r 48) ++ strOfNums (Nu.decV k)) = List.replicate r 48 ++ Nu.decV k) := by
    show _ = _
    rw [bytesOf_append, bytesOf_strOfNums (Nu.decV_bytes k), bytesOf_strOfNums (by intro x hx; rw [(List.mem_replicate.1 hx).2]; omega)]
  have hsz : (strOfNums (Nu.decV k)).size ≤ 66 := by rw [strOfNums_size]; exact Nu.decV_len hkI
  have HSZ : Hid ((strOfNums (List.replicate r 48) ++ strOfNums (Nu.decV k)).size ≤ 100) := by
    show _ ≤ _
    rw [ByteArray.size_append, strOfNums_size, List.length_replicate]; omega
  generalize strOfNums (Nu.decV k) = D at HD HBY hsz HSZ
  clear w0 w1 w2 w3 hk m0 m1 hre hje hkI
  go_enter Try.func7, Try.ntmps7
  go_wp2_with fail
  refine (limit_any a0 h0.out _).mono ?_
  rw [HK.out]
  rintro e w1 ⟨rfl, rfl⟩
  go_wp2_with fail
  have hBt : Below w.heap.size w w := .refl _ _
  go_cut [10] (fun s10 wx => s10 = .string (strOfNums (List.replicate r 48) ++ D) ∧ Below w.heap.size w wx)
  case first =>
    have hDs : D.size ≤ 66 := hsz
    rcases six hr with rfl | rfl | rfl | rfl | rfl | rfl
    · have hz : strOfNums (List.replicate 0 48) = (⟨#[]⟩ : ByteArray) := rfl
      have hx : (⟨#[48, 48, 48, 48, 48]⟩ : ByteArray).extract 0 0 = (⟨#[]⟩ : ByteArray) := rfl
      have hL0 : D.size ≤ 9223372036854775807 := by omega
      have hL : (⟨#[]⟩ : ByteArray).size + D.size ≤ 9223372036854775807 := by have : (⟨#[]⟩ : ByteArray).size = 0 := rfl; omega
      have hr0 : ((0 : Nat) : Int) = 0 := rfl
      rw [hr0] at HA
      have HZ := Lib.hid hz
      clear hz hr0
      go_region_with
        (first
          | (go_at_call 29; refine (HA.out _).mono ?_; rintro e w9 ⟨rfl, rfl⟩)
          | (go_at_call 30; refine (HD.out _).mono ?_; rintro e w9 ⟨rfl, hb9⟩; replace hBt := bel_step (w := w) (by first | exact hBt | exact hBt.trans ⟨rfl, rfl, rfl, Nat.le_refl _, fun _ _ => rfl⟩) hb9))
      all_goals
        go_wp2_with fail
        go_meet
        case rel => exact ⟨by rw [HZ.out] <;> first | (simp; done) | (simp; exact (emp_app D).symm), by first | exact hBt | exact hBt.trans ⟨rfl, rfl, rfl, Nat.le_refl _, fun _ _ => rfl⟩⟩
    · have hz : strOfNums (List.replicate 1 48) = (⟨#[48]⟩ : ByteArray) := rfl
      have hx : (⟨#[48, 48, 48, 48, 48]⟩ : ByteArray).extract 0 1 = (⟨#[48]⟩ : ByteArray) := rfl
      have hL0 : D.size ≤ 9223372036854775807 := by omega
      have hL : (⟨#[48]⟩ : ByteArray).size + D.size ≤ 9223372036854775807 := by have : (⟨#[48]⟩ : ByteArray).size = 1 := rfl; omega
      have hr0 : ((1 : Nat) : Int) = 1 := rfl
      rw [hr0] at HA
      have HZ := Lib.hid hz
      clear hz hr0
      go_region_with
        (first
          | (go_at_call 29; refine (HA.out _).mono ?_; rintro e w9 ⟨rfl, rfl⟩)
          | (go_at_call 30; refine (HD.out _).mono ?_; rintro e w9 ⟨rfl, hb9⟩; replace hBt := bel_step (w := w) (by first | exact hBt | exact hBt.trans ⟨rfl, rfl, rfl, Nat.le_refl _, fun _ _ => rfl⟩) hb9))
      all_goals
        go_wp2_with fail
        go_meet
        case rel => exact ⟨by rw [HZ.out] <;> first | (simp; done) | (simp; exact (emp_app D).symm), by first | exact hBt | exact hBt.trans ⟨rfl, rfl, rfl, Nat.le_refl _, fun _ _ => rfl⟩⟩
    · have hz : strOfNums (List.replicate 2 48) = (⟨#[48, 48]⟩ : ByteArray) := rfl
      have hx : (⟨#[48, 48, 48, 48, 48]⟩ : ByteArray).extract 0 2 = (⟨#[48, 48]⟩ : ByteArray) := rfl
      have hL0 : D.size ≤ 9223372036854775807 := by omega
      have hL : (⟨#[48, 48]⟩ : ByteArray).size + D.size ≤ 9223372036854775807 := by have : (⟨#[48, 48]⟩ : ByteArray).size = 2 := rfl; omega
      have hr0 : ((2 : Nat) : Int) = 2 := rfl
      rw [hr0] at HA
      have HZ := Lib.hid hz
      clear hz hr0
      go_region_with
        (first
          | (go_at_call 29; refine (HA.out _).mono ?_; rintro e w9 ⟨rfl, rfl⟩)
          | (go_at_call 30; refine (HD.out _).mono ?_; rintro e w9 ⟨rfl, hb9⟩; replace hBt := bel_step (w := w) (by first | exact hBt | exact hBt.trans ⟨rfl, rfl, rfl, Nat.le_refl _, fun _ _ => rfl⟩) hb9))
      all_goals
        go_wp2_with fail
        go_meet
        case rel => exact ⟨by rw [HZ.out] <;> first | (simp; done) | (simp; exact (emp_app D).symm), by first | exact hBt | exact hBt.trans ⟨rfl, rfl, rfl, Nat.le_refl _, fun _ _ => rfl⟩⟩
    · have hz : strOfNums (List.replicate 3 48) = (⟨#[48, 48, 48]⟩ : ByteArray) := rfl
      have hx : (⟨#[48, 48, 48, 48, 48]⟩ : ByteArray).extract 0 3 = (⟨#[48, 48, 48]⟩ : ByteArray) := rfl
      have hL0 : D.size ≤ 9223372036854775807 := by omega
      have hL : (⟨#[48, 48, 48]⟩ : ByteArray).size + D.size ≤ 9223372036854775807 := by have : (⟨#[48, 48, 48]⟩ : ByteArray).size = 3 := rfl; omega
      have hr0 : ((3 : Nat) : Int) = 3 := rfl
      rw [hr0] at HA
      have HZ := Lib.hid hz
      clear hz hr0
      go_region_with
        (first
          | (go_at_call 29; refine (HA.out _).mono ?_; rintro e w9 ⟨rfl, rfl⟩)
          | (go_at_call 30; refine (HD.out _).mono ?_; rintro e w9 ⟨rfl, hb9⟩; replace hBt := bel_step (w := w) (by first | exact hBt | exact hBt.trans ⟨rfl, rfl, rfl, Nat.le_refl _, fun _ _ => rfl⟩) hb9))
      all_goals
        go_wp2_with fail
        go_meet
        case rel => exact ⟨by rw [HZ.out] <;> first | (simp; done) | (simp; exact (emp_app D).symm), by first | exact hBt | exact hBt.trans ⟨rfl, rfl, rfl, Nat.le_refl _, fun _ _ => rfl⟩⟩
    · have hz : strOfNums (List.replicate 4 48) = (⟨#[48, 48, 48, 48]⟩ : ByteArray) := rfl
      have hx : (⟨#[48, 48, 48, 48, 48]⟩ : ByteArray).extract 0 4 = (⟨#[48, 48, 48, 48]⟩ : ByteArray) := rfl
      have hL0 : D.size ≤ 9223372036854775807 := by omega
      have hL : (⟨#[48, 48, 48, 48]⟩ : ByteArray).size + D.size ≤ 9223372036854775807 := by have : (⟨#[48, 48, 48, 48]⟩ : ByteArray).size = 4 := rfl; omega
      have hr0 : ((4 : Nat) : Int) = 4 := rfl
      rw [hr0] at HA
      have HZ := Lib.hid hz
      clear hz hr0
      go_region_with
        (first
          | (go_at_call 29; refine (HA.out _).mono ?_; rintro e w9 ⟨rfl, rfl⟩)
          | (go_at_call 30; refine (HD.out _).mono ?_; rintro e w9 ⟨rfl, hb9⟩; replace hBt := bel_step (w := w) (by first | exact hBt | exact hBt.trans ⟨rfl, rfl, rfl, Nat.le_refl _, fun _ _ => rfl⟩) hb9))
      all_goals
        go_wp2_with fail
        go_meet
        case rel => exact ⟨by rw [HZ.out] <;> first | (simp; done) | (simp; exact (emp_app D).symm), by first | exact hBt | exact hBt.trans ⟨rfl, rfl, rfl, Nat.le_refl _, fun _ _ => rfl⟩⟩
    · have hz : strOfNums (List.replicate 5 48) = (⟨#[48, 48, 48, 48, 48]⟩ : ByteArray) := rfl
      have hx : (⟨#[48, 48, 48, 48, 48]⟩ : ByteArray).extract 0 5 = (⟨#[48, 48, 48, 48, 48]⟩ : ByteArray) := rfl
      have hL0 : D.size ≤ 9223372036854775807 := by omega
      have hL : (⟨#[48, 48, 48, 48, 48]⟩ : ByteArray).size + D.size ≤ 9223372036854775807 := by have : (⟨#[48, 48, 48, 48, 48]⟩ : ByteArray).size = 5 := rfl; omega
      have hr0 : ((5 : Nat) : Int) = 5 := rfl
      rw [hr0] at HA
      have HZ := Lib.hid hz
      clear hz hr0
      go_region_with
        (first
          | (go_at_call 29; refine (HA.out _).mono ?_; rintro e w9 ⟨rfl, rfl⟩)
          | (go_at_call 30; refine (HD.out _).mono ?_; rintro e w9 ⟨rfl, hb9⟩; replace hBt := bel_step (w := w) (by first | exact hBt | exact hBt.trans ⟨rfl, rfl, rfl, Nat.le_refl _, fun _ _ => rfl⟩) hb9))
      all_goals
        go_wp2_with fail
        go_meet
        case rel => exact ⟨by rw [HZ.out] <;> first | (simp; done) | (simp; exact (emp_app D).symm), by first | exact hBt | exact hBt.trans ⟨rfl, rfl, rfl, Nat.le_refl _, fun _ _ => rfl⟩⟩
  case rest =>
    obtain ⟨rfl, hBw⟩ := hcut
    have HBw := Lib.hid hBw
    generalize strOfNums (List.replicate r 48) ++ D = S at HBY HSZ ⊢
    clear hBw hBt hsz HD HA
    go_wp2_with fail
    refine (tokNew_s k M0.out _).mono ?_
    rintro e w1 ⟨rfl, hR, hB⟩
    have HR := Lib.hid hR
    have HB := Lib.hid (HBw.out.trans (hB.mono HBw.out.size))
    have hbw : w.heap.size ≤ wc.heap.size := HBw.out.size
    clear hR hB
    have hSs : S.size ≤ 100 := HSZ.out
    generalize wc.heap.size = b at HR hbw ⊢
    go_wp2_with fail
    go_loopw [12] (fun u12 wr => ∃ (i : Nat) (t : Tk.S), i ≤ S.size ∧ u12 = .int .i64 i ∧ RdS wr b k t ∧ Tk.digs k t ((bytesOf S).drop i) ⟨2, k, 9, true⟩ ∧ Below w.heap.size w wr) (fun u12 _ => S.size - (intOf u12).toNat)
    case atStart => exact ⟨0, Tk.new, Nat.zero_le _, rfl, HR.out, by rw [HBY.out]; exact HDG.out, HB.out⟩
    case round =>
      obtain ⟨i, t, hi, rfl, hRd, hdg, hB⟩ := hrel
      by_cases hlt : i < S.size
      · rw [bytesOf_drop S i hlt] at hdg
        have c0 : (0 : Int) ≤ (S[i].toNat : Int) := by omega
        have c1 : (S[i].toNat : Int) ≤ 255 := by have := S[i].toNat_lt; omega
        obtain ⟨t', ht'⟩ : ∃ t', Tk.put k t (S[i].toNat : Int) = t' := ⟨_, rfl⟩
        obtain ⟨hk2, hdg2⟩ := hdg
        rw [ht'] at hk2 hdg2
        have hbg := (Tk.good_put hRd.1 (S[i].toNat : Int))
        rw [ht'] at hbg
        have hbt : t'.bg = true := hbg.2.2.2.2.2.2.2 (by omega) (by omega)
        have HP := Lib.hid (put_to hRd.1 M1.out (S[i].toNat : Int) c0 c1 ht' 0 (by unfold Tk.st; rw [if_neg (by omega), if_neg (by omega)]))
        have HG : Hid (∀ W, RdS W b k t' → Calls Try.prog 18 #[.pointer (some ⟨b, 0, none⟩)] W fun e w' => e = .returned (.bool true) ∧ W = w') := fun W hr => by have := begun_s hr; rw [hbt] at this; exact this
        have HRD := Lib.hid hRd
        have HB1 := Lib.hid hB
        have HDD := Lib.hid hdg2
        clear hRd hB hdg2 hbg hbt ht' hk2
        go_wp2_with (first
          | (go_at_call 17; refine (HP.out _ _ HRD.out).mono ?_; rintro e w2 ⟨rfl, hr2, hg2⟩; have HR2 := Lib.hid hr2; have HG2 := Lib.hid hg2; clear hr2 hg2)
          | (go_at_call 18; refine (HG.out _ HR2.out).mono ?_; rintro e w3 ⟨rfl, rfl⟩))
        go_roundw
        case rel => exact ⟨i + 1, t', by omega, by go_num, HR2.out, HDD.out, grown_bel HB1.out HG2.out HB1.out.size hbw⟩
        case measure => simp [intOf]; omega
      · rw [List.drop_eq_nil_of_le (by rw [bytesOf_length]; omega)] at hdg
        have hdg' : t = ⟨2, k, 9, true⟩ := hdg
        subst hdg'
        have HRD := Lib.hid hRd
        have HB1 := Lib.hid hB
        clear hRd hB hdg
        have G2 := HRD.out.1
        obtain ⟨E, hE⟩ : ∃ E, Tk.bl6 j = E := ⟨_, rfl⟩
        have HE := Lib.hid hE
        obtain ⟨e0, e1⟩ := Tk.bl6_byte j
        have eb := Tk.bl6_blank j
        rw [hE] at e0 e1 eb
        have P1 := Lib.hid (put_to G2 M1.out E e0 e1 (Tk.put_end eb) 1 rfl)
        have G3 : Tk.Good k ⟨4, k, 0, true⟩ := by rw [← Tk.put_end eb]; exact Tk.good_put G2 E
        have P2 := Lib.hid (put_to G3 M1.out a3 h3.out.1 h3.out.2 (t := ⟨4, k, 0, true⟩) rfl 1 rfl)
        clear G2 G3 e0 e1 eb hE
        have hBt : Below wr.heap.size wr wr := .refl _ _
        go_upto_region 11 with (fail)
        go_cut [13] (fun s13 wx => s13 = .int .u8 E ∧ Below wr.heap.size wr wx)
        case first =>
          rcases six hj with rfl | rfl | rfl | rfl | rfl | rfl
          all_goals
            go_wp2_with (go_at_call 29; refine (HJ.out _).mono ?_; rintro e w9 ⟨rfl, rfl⟩)
            go_meet
            case rel => exact ⟨by rw [← HE.out]; rfl, by go_grown⟩
        case rest =>
          obtain ⟨rfl, hBx⟩ := hcut
          have HR4 := Lib.hid (HRD.out.later hBx)
          have HB4 := Lib.hid (HB1.out.trans (hBx.mono HB1.out.size))
          clear hBx hBt
          go_wp2_with fail
          refine (P1.out _ _ HR4.out).mono ?_
          rintro e w5 ⟨rfl, hr, hg⟩
          have HR5 := Lib.hid hr
          have HB5 := Lib.hid (grown_bel HB4.out hg HB4.out.size hbw)
          clear hr hg
          go_wp2_with fail
          refine (P2.out _ _ HR5.out).mono ?_
          rintro e w6 ⟨rfl, hr, hg⟩
          have HR6 := Lib.hid hr
          have HB6 := Lib.hid (grown_bel HB5.out hg HB5.out.size hbw)
          clear hr hg
          go_wp2_with fail
          refine (value_s HR6.out).mono ?_
          rintro e w7 ⟨rfl, hg⟩
          have HB7 := Lib.hid (HB6.out.grown hg HB6.out.size (by intro k e; cases e))
          clear hg
          rw [show Tk.val ⟨4, k, 0, true⟩ = (k, 0) from rfl]
          have hkk : (k == k) = true := by simp
          go_wp2_with fail
          refine (lives5_any _).mono ?_
          rintro e w8 ⟨rfl, hb⟩
          have HB8 := Lib.hid (HB7.out.trans (hb.mono HB7.out.size))
          clear hb
          go_wp2
          go_ret
          exact ⟨rfl, HB8.out⟩
end Go.Proofs.Yteonfgphihacgaa

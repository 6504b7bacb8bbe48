/- TokenRemarks: remarks and blanks ahead change no number: the walk of the law. No condition. -/
import Derived.Test.YteonfgphihacgaaTokH
import Derived.Test.YteonfgphihacgaaTokQ
import Derived.Test.YteonfgphihacgaaSamI
import Derived.Deep.RegionHeld3
import Derived.Deep.DeepCutAuto
namespace Go.Proofs.Yteonfgphihacgaa
open Go.RowKit Go.Shelf
set_option linter.unusedVariables false

theorem Tq.box1 (w : World) (o : Obj) : Below w.heap.size w (w.alloc o) := (Below.refl _ w).alloc (Nat.le_refl _) o
namespace Tq
theorem row_below {w w' : World} {base size k : Nat} {e : TypeId} {v : Value} {xs : List Value} (hr : w.ownsRow base e size v k xs) (hb : Below w.heap.size w w') : w'.ownsRow base e size v k xs := _root_.Go.Proofs.Yteonfgphihacgaa.row_below hr hb
/-- the bytes that are blanks, by number -/
def bl6 (j : Nat) : Int := if j = 0 then 9 else if j = 1 then 10 else if j = 2 then 11 else if j = 3 then 12 else if j = 4 then 13 else 32
theorem bl6_blank (j : Nat) : Tk.blank (bl6 j) = true := by unfold bl6; repeat' split
                                                            all_goals rfl
theorem bl6_byte (j : Nat) : 0 ≤ bl6 j ∧ bl6 j ≤ 255 := by unfold bl6; repeat' split
                                                           all_goals omega
theorem around6 (a : Int) : ∃ j : Nat, j < 6 ∧ Ar.around a 6 = (j : Int) := by
  obtain ⟨h0, h1⟩ := Ar.around_lt a 6 (by omega)
  exact ⟨(Ar.around a 6).toNat, by omega, by omega⟩
theorem six {j : Nat} (h : j < 6) : j = 0 ∨ j = 1 ∨ j = 2 ∨ j = 3 ∨ j = 4 ∨ j = 5 := by omega
end Tq
theorem Tq.of_drew {w w9 : World} (h : Below w.drew.heap.size w.drew w9) : Below w.heap.size w w9 := Below.trans (b := w.drew) ⟨rfl, rfl, rfl, Nat.le_refl _, fun _ _ => rfl⟩ h
theorem Tq.conv_later {W w9 : World} (x : Int) {b : Nat} (hbk : W.heap.size = b) (hb : Below (W.alloc (.cells #[.int .u8 x] 5)).heap.size (W.alloc (.cells #[.int .u8 x] 5)) w9) :
    (convert 45 9 (.slice (some ⟨b, 0, none⟩) 1 1)).run Try.prog w9 = .ok (.string (strOfNums [x])) w9 := by
  subst hbk
  refine run_convert_bytes_arg (P := Try.prog) w9 45 5 Try.underlying45 Try.underlying5 W.heap.size 0 1 1 [x] rfl (fun i hi => ?_) 9 Try.underlying9
  have hi0 : i = 0 := by simp at hi; omega
  subst hi0
  exact cell_later hb (by simp [go_sem])
theorem Tq.bytes_one (s : ByteArray) (i : Nat) (h : i < s.size) : bytesOf (s.extract i (i + 1)) = [(s[i].toNat : Int)] := by
  unfold bytesOf
  rw [ByteArray.data_extract, Array.toList_extract]
  rw [List.extract_eq_take_drop, show i + 1 - i = 1 by omega, List.drop_eq_getElem_cons (by simpa using h)]
  simp [ByteArray.getElem_eq_getElem_data]
set_option maxRecDepth 100000 in
set_option maxHeartbeats 8000000 in
theorem tokenRemarks_walk (a0 : Int) (a1 : ByteArray) (a2 : Int) (w : World) (w0 : (Lit.int .i64 a0).wf = true) (w1 : a1.size ≤ maxLen) (w2 : (Lit.int .i64 a2).wf = true) :
    Calls Try.prog 5 #[.int .i64 a0, .string a1, .int .i64 a2] w fun e w' => e = .returned (.bool true) ∧ Below w.heap.size w w' := by
  have h0 := Lib.hid (wfI w0)
  have h2 := Lib.hid (wfI w2)
  have H1 := Lib.hid w1
  obtain ⟨m0, m1⟩ := Nu.limit_lt a0
  obtain ⟨k, hk⟩ : ∃ k, Nu.limit a0 = k := ⟨_, rfl⟩
  rw [hk] at m0 m1
  have HK := Lib.hid hk
  have M0 := Lib.hid m0
  have M1 := Lib.hid m1
  obtain ⟨j, hj, hje⟩ := Tq.around6 a2
  have HJ : Hid (∀ W, Calls Try.prog 29 #[.int .i64 a2, .int .i64 6] W fun e w' => e = .returned (.int .i64 (j : Int)) ∧ W = w') := fun W => by have := aroundOf a2 6 h2.out.1 h2.out.2 (by omega) (by omega) W; rw [hje] at this; exact this
  have hkI : Nu.I k := by unfold Nu.I; omega
  have HD := Lib.hid (refDecimal_any k hkI)
  have HDL : Hid ((strOfNums (Nu.decV k)).size ≤ 66) := by show _ ≤ _; rw [strOfNums_size]; exact Nu.decV_len hkI
  clear w0 w1 w2 hk m0 m1 hje hkI
  go_enter Try.func5, Try.ntmps5
  go_wp2_with fail
  refine (limit_any a0 h0.out _).mono ?_
  rw [HK.out]
  rintro e w1 ⟨rfl, rfl⟩
  go_wp2_with fail
  refine (few_any a1 30 (by omega) H1.out _).mono ?_
  rintro e w1 ⟨s, rfl, hs, rfl⟩
  go_wp2_with fail
  go_loop [8, 9] (fun u8 u9 => ∃ (i : Nat) (o : ByteArray), i ≤ s.size ∧ u8 = .string o ∧ u9 = .int .i64 i ∧ o.size ≤ i + 1 ∧ Tk.Rem o) (fun _ u9 => s.size - (intOf u9).toNat)
  case atStart => exact ⟨0, ⟨#[35]⟩, Nat.zero_le _, rfl, rfl, by decide, Tk.rem_new⟩
  case round =>
    obtain ⟨i, o, hi, rfl, rfl, hos, hrem⟩ := hrel
    have HREM := Lib.hid hrem
    clear hrem
    by_cases hlt : i < s.size
    · have HB1 := Lib.hid (Tq.bytes_one s i hlt)
      have hx1 : (s.extract i (i + 1)).size = 1 := by rw [← bytesOf_length, HB1.out]; rfl
      have iI : (0 : Int) ≤ (i : Int) := by omega
      have iJ : (i : Int) < (s.size : Int) := by omega
      have iK : (i : Int) + 1 ≤ (s.size : Int) := by omega
      by_cases h10 : (s[i].toNat : Int) = 10
      · have k1 : ((s[i].toNat : Int) != 10) = false := by simp [h10]
        clear h10 hx1
        go_wp2
        go_round
        case rel => exact ⟨i + 1, o, by omega, rfl, by go_num, by omega, HREM.out⟩
        case measure => simp [intOf]; omega
      have k1 : ((s[i].toNat : Int) != 10) = true := by simpa using h10
      by_cases h13 : (s[i].toNat : Int) = 13
      · have k2 : ((s[i].toNat : Int) != 13) = false := by simp [h13]
        clear h10 h13 hx1
        go_wp2
        go_round
        case rel => exact ⟨i + 1, o, by omega, rfl, by go_num, by omega, HREM.out⟩
        case measure => simp [intOf]; omega
      · have k2 : ((s[i].toNat : Int) != 13) = true := by simpa using h13
        have HR2 := Lib.hid (Tk.rem_snoc HREM.out HB1.out (by unfold Tk.line; exact decide_eq_false (by omega)))
        obtain ⟨X, hX⟩ : ∃ X, s.extract i (i + 1) = X := ⟨_, rfl⟩
        rw [hX] at hx1 HR2
        have hL : o.size + X.size ≤ 9223372036854775807 := by omega
        clear h10 h13 HB1
        go_wp2
        go_round
        case rel => exact ⟨i + 1, o ++ X, by omega, rfl, by go_num, by rw [ByteArray.size_append]; omega, HR2.out⟩
        case measure => simp [intOf]; omega
    · have hos2 : o.size ≤ 31 := by omega
      have HOS := Lib.hid hos2
      have hltI : ¬ (i : Int) < (s.size : Int) := by omega
      clear hi hs hos hos2
      have hBt : Below w.heap.size w w := .refl _ _
      go_upto_region 9 with (fail)
      go_cut [10] (fun s10 wx => ∃ c, s10 = .int .u8 c ∧ Tk.blank c = true ∧ 0 ≤ c ∧ c ≤ 255 ∧ Below w.heap.size w wx)
      case first =>
        rcases Tq.six hj with rfl | rfl | rfl | rfl | rfl | rfl
        all_goals
          go_wp2_with (go_at_call 29; refine (HJ.out _).mono ?_; rintro e w9 ⟨rfl, rfl⟩)
          go_meet
          case rel => exact ⟨_, rfl, by decide, by omega, by omega, by go_grown⟩
      case rest =>
        obtain ⟨c, rfl, hcb, c0, c1, hBx⟩ := hcut
        have B4 := Lib.hid hBx
        obtain ⟨C, hC⟩ : ∃ C, strOfNums [c] = C := ⟨_, rfl⟩
        obtain ⟨D, hD⟩ : ∃ D, strOfNums (Nu.decV k) = D := ⟨_, rfl⟩
        have HA1 := Lib.hid (Tk.all_ahead M0.out HREM.out hcb c0 c1 hD hC)
        have HA2 := Lib.hid (Tk.all_behind M0.out HREM.out hD)
        have HSK := Lib.hid (Tk.skip_rem HREM.out)
        have hc1s : C.size = 1 := by rw [← hC, strOfNums_size]; rfl
        have HCL : Hid (∀ (W w9 : World) (b : Nat), W.heap.size = b → Below (W.alloc (.cells #[.int .u8 c] 5)).heap.size (W.alloc (.cells #[.int .u8 c] 5)) w9 → (convert 45 9 (.slice (some ⟨b, 0, none⟩) 1 1)).run Try.prog w9 = .ok (.string C) w9) := fun W w9 b h1 h2 => by have := Tq.conv_later c h1 h2; rw [hC] at this; exact this
        have HCV : Hid (∀ W : World, (convert 45 9 (.slice (some ⟨W.heap.size, 0, none⟩) 1 1)).run Try.prog (W.alloc (.cells #[.int .u8 c] 5)) = .ok (.string C) (W.alloc (.cells #[.int .u8 c] 5))) := fun W => by have := Nu.conv_one W c; rw [hC] at this; exact this
        rw [hD] at HD HDL
        have hos2 := HOS.out
        have hDL := HDL.out
        have L1 : 1 + o.size ≤ 9223372036854775807 := by omega
        have L1' : (⟨#[32]⟩ : ByteArray).size + o.size ≤ 9223372036854775807 := by rw [show (⟨#[32]⟩ : ByteArray).size = 1 from rfl]; omega
        have L2 : 1 + o.size + 2 ≤ 9223372036854775807 := by omega
        have L2' : (⟨#[32]⟩ : ByteArray).size + o.size + (⟨#[10, 9]⟩ : ByteArray).size ≤ 9223372036854775807 := by rw [show (⟨#[32]⟩ : ByteArray).size = 1 from rfl, show (⟨#[10, 9]⟩ : ByteArray).size = 2 from rfl]; omega
        have L3 : 1 + o.size + 2 + D.size ≤ 9223372036854775807 := by omega
        have L3' : (⟨#[32]⟩ : ByteArray).size + o.size + (⟨#[10, 9]⟩ : ByteArray).size + D.size ≤ 9223372036854775807 := by rw [show (⟨#[32]⟩ : ByteArray).size = 1 from rfl, show (⟨#[10, 9]⟩ : ByteArray).size = 2 from rfl]; omega
        have L4 : 1 + o.size + 2 + D.size + C.size ≤ 9223372036854775807 := by omega
        have L4' : (⟨#[32]⟩ : ByteArray).size + o.size + (⟨#[10, 9]⟩ : ByteArray).size + D.size + C.size ≤ 9223372036854775807 := by rw [show (⟨#[32]⟩ : ByteArray).size = 1 from rfl, show (⟨#[10, 9]⟩ : ByteArray).size = 2 from rfl]; omega
        have L1n := Nat.not_lt.2 L1
        have L2n := Nat.not_lt.2 L2
        have L3n := Nat.not_lt.2 L3
        have L4n := Nat.not_lt.2 L4
        clear L1 L1' L2 L2' L3 L3' L4 L4'
        have HS1 : Hid (((⟨#[32]⟩ : ByteArray) ++ o ++ ⟨#[10, 9]⟩ ++ D ++ C).size ≤ 1000) := by
          show _ ≤ _
          simp only [ByteArray.size_append]
          rw [show (⟨#[32]⟩ : ByteArray).size = 1 from rfl, show (⟨#[10, 9]⟩ : ByteArray).size = 2 from rfl]; omega
        have HS2 : Hid ((D ++ o ++ ⟨#[13]⟩ : ByteArray).size ≤ 1000) := by
          show _ ≤ _
          simp only [ByteArray.size_append]
          rw [show (⟨#[13]⟩ : ByteArray).size = 1 from rfl]; omega
        have hcv0 := HCL.out wc (wc.alloc (.cells #[.int .u8 c] 5)).drew wc.heap.size rfl ⟨rfl, rfl, rfl, Nat.le_refl _, fun _ _ => rfl⟩
        clear hBx hBt hC hD hDL hc1s hcb c0 c1 hos2
        go_wp2_with fail
        go_cut [11] (fun s11 wx => s11 = .string ((⟨#[32]⟩ : ByteArray) ++ o ++ ⟨#[10, 9]⟩ ++ D ++ C) ∧ Below wc.heap.size wc wx)
        case first =>
          go_region_with (go_at_call 30; refine (HD.out _).mono ?_; rintro e w9 ⟨rfl, hb9⟩; have hcv1 := HCV.out w9; (try have hcv2 := HCL.out wc w9 wc.heap.size rfl (Tq.of_drew hb9)); have hbx : Below wc.heap.size wc w9 := (by first | exact Tq.of_drew hb9 | exact (Tq.box1 wc _).trans ((Tq.of_drew hb9).mono (by simp))))
          all_goals
            go_wp2_with fail
            go_meet
            case rel =>
              first
                | exact ⟨rfl, hbx⟩
                | exact ⟨rfl, hbx.alloc hbx.size (.cells #[.int .u8 c] 5)⟩
        case rest =>
          obtain ⟨rfl, hBx⟩ := hcut
          have B5 := Lib.hid (B4.out.trans (hBx.mono B4.out.size))
          obtain ⟨T, hT⟩ : ∃ T, (⟨#[32]⟩ : ByteArray) ++ o ++ ⟨#[10, 9]⟩ ++ D ++ C = T := ⟨_, rfl⟩
          obtain ⟨U, hU⟩ : ∃ U, (D ++ o ++ ⟨#[13]⟩ : ByteArray) = U := ⟨_, rfl⟩
          rw [hT] at HA1 HS1 ⊢
          rw [hU] at HA2 HS2
          have HU := Lib.hid hU
          have hos2 := HOS.out
          have hDL := HDL.out
          have P1 : D.size + o.size ≤ 9223372036854775807 := by omega
          have P2 : D.size + o.size + 1 ≤ 9223372036854775807 := by omega
          have P2' : D.size + o.size + (⟨#[13]⟩ : ByteArray).size ≤ 9223372036854775807 := by rw [show (⟨#[13]⟩ : ByteArray).size = 1 from rfl]; omega
          have HOS2 : Hid (o.size ≤ 1000) := Nat.le_trans hos2 (by omega)
          have hone : Hid (([k] : List Int).length ≤ 9223372036854775807) := by show _ ≤ _; simp
          have N1 : (0 : Int) ≤ (D.size : Int) := by omega
          have N2 : (D.size : Int) ≤ 66 := by omega
          have N3 : (0 : Int) ≤ (o.size : Int) := by omega
          have N4 : (o.size : Int) ≤ 31 := by omega
          clear hBx L1n L2n L3n L4n hcv0 hT hU hDL hos2
          go_wp2_with fail
          refine (all_any T k M0.out M1.out HS1.out _).mono ?_
          rintro e w2 ⟨ad, cap, acc, u, er, rfl, hv, ho, hle, hln, hb⟩
          rw [HA1.out] at hv
          injection hv with e1 e2
          injection e2 with e2 e3
          subst e1 e2 e3
          have HO := Lib.hid ho
          have B6 := Lib.hid (B5.out.trans (hb.mono B5.out.size))
          clear ho hle hln hb
          go_wp2_with fail
          refine (HD.out _).mono ?_
          rintro e w3 ⟨rfl, hb⟩
          have HO3 := Lib.hid (HO.out.later hb)
          have B7 := Lib.hid (B6.out.trans (hb.mono B6.out.size))
          clear hb
          go_wp2_with fail
          rw [HU.out]
          refine (all_any U k M0.out M1.out HS2.out _).mono ?_
          rintro e w4 ⟨ad2, cap2, acc2, u2, er2, rfl, hv, ho, hle, hln, hb⟩
          rw [HA2.out] at hv
          injection hv with e1 e2
          injection e2 with e2 e3
          subst e1 e2 e3
          have HO4 := Lib.hid (HO3.out.later hb)
          have HP4 := Lib.hid ho
          have B8 := Lib.hid (B7.out.trans (hb.mono B7.out.size))
          clear ho hle hln hb
          go_wp2_with fail
          refine (Sm.same_self _ _ _ _ _ _ [k] _ hone.out (HO4.out.later (Tq.box1 w4 _)).sl (ownK_lit w4 _ _ [k] rfl).sl).mono ?_
          rintro e w5 ⟨rfl, hb⟩
          have HP5 := Lib.hid ((HP4.out.later (Tq.box1 w4 _)).later hb)
          have B9 := Lib.hid ((B8.out.alloc B8.out.size _).trans (hb.mono (by simp; exact Nat.le_succ_of_le B8.out.size)))
          clear hb
          go_wp2_with fail
          refine (Sm.same_self _ _ _ _ _ _ [k] _ hone.out (HP5.out.later (Tq.box1 w5 _)).sl (ownK_lit w5 _ _ [k] rfl).sl).mono ?_
          rintro e w6 ⟨rfl, hb⟩
          have B10 := Lib.hid ((B9.out.alloc B9.out.size _).trans (hb.mono (by simp; exact Nat.le_succ_of_le B9.out.size)))
          clear hb
          go_wp2_with fail
          refine (HD.out _).mono ?_
          rintro e w7 ⟨rfl, hb⟩
          have B11 := Lib.hid (B10.out.trans (hb.mono B10.out.size))
          clear hb
          go_wp2_with fail
          refine (skip_any o HOS2.out _).mono ?_
          rintro e w8 ⟨rfl, hb⟩
          rw [HSK.out]
          have B12 := Lib.hid (B11.out.trans (hb.mono B11.out.size))
          clear hb
          go_wp2_with fail
          refine (lives5_any _).mono ?_
          rintro e w9 ⟨rfl, hb⟩
          have B13 := Lib.hid (B12.out.trans (hb.mono B12.out.size))
          clear hb
          go_wp2
          go_ret
          exact ⟨rfl, B13.out⟩
end Go.Proofs.Yteonfgphihacgaa

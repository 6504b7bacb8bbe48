/- HeadRemarks: blanks and remarks between a head's numbers change nothing of it: the walk of the law. No condition. -/
import Derived.Test.YtnbppkiiccbagaaHedO
import Derived.Test.YtnbppkiiccbagaaHedR
import Derived.Deep.DeepCutAuto
namespace Go.Proofs.Ytnbppkiiccbagaa
open Go.RowKit Go.Shelf
set_option linter.unusedVariables false

namespace Hr
theorem around6 (a : Int) : ∃ j : Nat, j < 6 ∧ Ar.around a 6 = (j : Int) := by
  obtain ⟨h0, h1⟩ := Ar.around_lt a 6 (by omega)
  exact ⟨(Ar.around a 6).toNat, by omega, by omega⟩
theorem six {j : Nat} (h : j < 6) : j = 0 ∨ j = 1 ∨ j = 2 ∨ j = 3 ∨ j = 4 ∨ j = 5 := by omega
theorem bytes_one (s : ByteArray) (i : Nat) (h : i < s.size) : bytesOf (s.extract i (i + 1)) = [(s[i].toNat : Int)] := by
  unfold bytesOf
  rw [ByteArray.data_extract, Array.toList_extract]
  rw [List.extract_eq_take_drop, show i + 1 - i = 1 by omega, List.drop_eq_getElem_cons (by simpa using h)]
  simp [ByteArray.getElem_eq_getElem_data]
theorem kind3 {k : Int} (h1 : 1 ≤ k) (h6 : k ≤ 6) : (k % 3 != 1) = !Hd.bits k := by
  have h : k = 1 ∨ k = 2 ∨ k = 3 ∨ k = 4 ∨ k = 5 ∨ k = 6 := by omega
  rcases h with rfl | rfl | rfl | rfl | rfl | rfl <;> rfl
end Hr
set_option maxRecDepth 100000 in
set_option maxHeartbeats 8000000 in
theorem headRemarks_walk (a0k0 a0w1 a0h2 a0m3 : Int) (a1 : Int) (a2 : ByteArray) (w : World) (w00 : (Lit.int .i64 a0k0).wf = true) (w01 : (Lit.int .i64 a0w1).wf = true) (w02 : (Lit.int .i64 a0h2).wf = true) (w03 : (Lit.int .i64 a0m3).wf = true) (w1 : (Lit.int .i64 a1).wf = true) (w2 : a2.size ≤ maxLen) :
    Calls Try.prog 10 #[.agg #[.int .i64 a0k0, .int .i64 a0w1, .int .i64 a0h2, .int .i64 a0m3], .int .i64 a1, .string a2] w fun e w' => e = .returned (.bool true) ∧ Below w.heap.size w w' := by
  have HF : Hj.Fit ⟨a0k0, a0w1, a0h2, a0m3⟩ := ⟨wfI w00, wfI w01, wfI w02, wfI w03⟩
  have HGD := Lib.hid (hgood_any _ HF)
  have hM := Hj.may_good ⟨a0k0, a0w1, a0h2, a0m3⟩
  generalize Hj.good ⟨a0k0, a0w1, a0h2, a0m3⟩ = G at HGD hM
  have HFG := Hj.may_fit hM
  have HMG := Lib.hid hM
  have i1 := wfI w1
  have HFEW := Lib.hid (few_any a2 12 (by omega) w2)
  obtain ⟨j, hj, hje⟩ := Hr.around6 a1
  have HJ : Hid (∀ W, Calls Try.prog 34 #[.int .i64 a1, .int .i64 6] W fun e w' => e = .returned (.int .i64 (j : Int)) ∧ W = w') := fun W => by have := aroundOf a1 6 i1.1 i1.2 (by omega) (by omega) W; rw [hje] at this; exact this
  have hk3 := Hr.kind3 hM.1.1 hM.1.2
  have hkt : G.kd.tmod 3 = G.kd % 3 := Int.tmod_eq_emod_of_nonneg (by have := hM.1.1; omega)
  obtain ⟨kd, ww, hh, m⟩ := G
  simp only at hk3 hkt
  have HK3 := Lib.hid hk3
  have HKT := Lib.hid hkt
  have HOG := Lib.hid (hof_any ⟨kd, ww, hh, m⟩)
  have HAS := Lib.hid (has_any ⟨kd, ww, hh, m⟩)
  unfold agH at HGD HOG HAS
  have hq := rheq_self kd ww hh m
  have hqg := rheq_guard
  have HD1 := Lib.hid (refDecimal_any kd HFG.1)
  have HD2 := Lib.hid (refDecimal_any ww HFG.2.1)
  have HD3 := Lib.hid (refDecimal_any hh HFG.2.2.1)
  have HD4 := Lib.hid (refDecimal_any m HFG.2.2.2)
  have s1 : (strOfNums (Nu.decV kd)).size ≤ 66 := by rw [strOfNums_size]; exact Nu.decV_len HFG.1
  have s2 : (strOfNums (Nu.decV ww)).size ≤ 66 := by rw [strOfNums_size]; exact Nu.decV_len HFG.2.1
  have s3 : (strOfNums (Nu.decV hh)).size ≤ 66 := by rw [strOfNums_size]; exact Nu.decV_len HFG.2.2.1
  have s4 : (strOfNums (Nu.decV m)).size ≤ 66 := by rw [strOfNums_size]; exact Nu.decV_len HFG.2.2.2
  have SZ : Hid ((strOfNums (Nu.decV kd)).size ≤ 66 ∧ (strOfNums (Nu.decV ww)).size ≤ 66 ∧ (strOfNums (Nu.decV hh)).size ≤ 66 ∧ (strOfNums (Nu.decV m)).size ≤ 66) := ⟨s1, s2, s3, s4⟩
  clear hM HF HFG w00 w01 w02 w03 w1 w2 i1 hje hk3 hkt s1 s2 s3 s4
  have hBt : Below w.heap.size w w := .refl _ _
  go_enter Try.func10, Try.ntmps10
  go_wp2_with fail
  refine (HGD.out _).mono ?_
  rintro e w1 ⟨rfl, hb1⟩
  have hB1 : Below w.heap.size w w1 := (hBt.alloc (Nat.le_refl _) (.cells #[.int .i64 a0k0, .int .i64 a0w1, .int .i64 a0h2, .int .i64 a0m3] 50)).trans (hb1.mono (by simp))
  obtain ⟨W, hW⟩ : ∃ W, w1.alloc (.cells #[.int .i64 kd, .int .i64 ww, .int .i64 hh, .int .i64 m] 50) = W := ⟨_, rfl⟩
  have hBW : Below w1.heap.size w1 W := by rw [← hW]; exact (Below.refl _ _).alloc (Nat.le_refl _) _
  have hG1 : Hb W w1.heap.size 50 ⟨kd, ww, hh, m⟩ := by rw [← hW]; exact Hb.new w1 _ ⟨kd, ww, hh, m⟩
  have HB := Lib.hid (hB1.trans (hBW.mono hB1.size))
  have HG1 := Lib.hid hG1
  go_wp2_with fail
  try rw [hW]
  clear hW hBW hG1 hB1 hb1 hBt
  refine (HFEW.out _).mono ?_
  rintro e w2 ⟨s, rfl, hs, rfl⟩
  have HSZ := Lib.hid hs
  go_wp2_with fail
  go_loop [8, 9] (fun u8 u9 => ∃ (i : Nat) (o : ByteArray), i ≤ s.size ∧ u8 = .string o ∧ u9 = .int .i64 i ∧ o.size ≤ i + 1 ∧ Tk.Rem o) (fun _ u9 => s.size - (intOf u9).toNat)
  case atStart => exact ⟨0, ⟨#[35]⟩, Nat.zero_le _, rfl, rfl, by decide, Tk.rem_new⟩
  case round =>
    obtain ⟨i, o, hi, rfl, rfl, hos, hrem⟩ := hrel
    have HREM := Lib.hid hrem
    clear hrem
    by_cases hlt : i < s.size
    · have HB1 := Lib.hid (Hr.bytes_one s i hlt)
      have hx1 : (s.extract i (i + 1)).size = 1 := by rw [← bytesOf_length, HB1.out]; rfl
      have iI : (0 : Int) ≤ (i : Int) := by omega
      have iJ : (i : Int) < (s.size : Int) := by omega
      have iK : (i : Int) + 1 ≤ (s.size : Int) := by omega
      by_cases h10 : (s[i].toNat : Int) = 10
      · have k1 : ((s[i].toNat : Int) != 10) = false := by simp [h10]
        clear h10 hx1
        go_wp2
        go_round
        case rel => exact ⟨i + 1, o, by omega, rfl, by go_num, by omega, HREM.out⟩
        case measure => simp [intOf]; omega
      have k1 : ((s[i].toNat : Int) != 10) = true := by simpa using h10
      by_cases h13 : (s[i].toNat : Int) = 13
      · have k2 : ((s[i].toNat : Int) != 13) = false := by simp [h13]
        clear h10 h13 hx1
        go_wp2
        go_round
        case rel => exact ⟨i + 1, o, by omega, rfl, by go_num, by omega, HREM.out⟩
        case measure => simp [intOf]; omega
      · have k2 : ((s[i].toNat : Int) != 13) = true := by simpa using h13
        have HR2 := Lib.hid (Tk.rem_snoc HREM.out HB1.out (by unfold Tk.line; exact decide_eq_false (by omega)))
        obtain ⟨X, hX⟩ : ∃ X, s.extract i (i + 1) = X := ⟨_, rfl⟩
        rw [hX] at hx1 HR2
        have hL : o.size + X.size ≤ 9223372036854775807 := by omega
        clear h10 h13 HB1
        go_wp2
        go_round
        case rel => exact ⟨i + 1, o ++ X, by omega, rfl, by go_num, by rw [ByteArray.size_append]; omega, HR2.out⟩
        case measure => simp [intOf]; omega
    · have hos2 : o.size ≤ 13 := by omega
      have HOS := Lib.hid hos2
      have hltI : ¬ (i : Int) < (s.size : Int) := by omega
      clear hi hs hos hos2
      have hBt : Below W.heap.size W W := .refl _ _
      go_upto_region 9 with (fail)
      go_cut [10] (fun s10 wx => ∃ c, s10 = .string (strOfNums [c]) ∧ Tk.blank c = true ∧ 0 ≤ c ∧ c ≤ 255 ∧ Below W.heap.size W wx)
      case first =>
        have hcv := fun x => Nu.conv_one (W.alloc (.cells #[.int .u8 9, .int .u8 10, .int .u8 11, .int .u8 12, .int .u8 13, .int .u8 32] 5)) x
        simp only [World.size_alloc] at hcv
        rcases Hr.six hj with rfl | rfl | rfl | rfl | rfl | rfl
        all_goals
          go_wp2_with (go_at_call 34; refine (HJ.out _).mono ?_; rintro e w9 ⟨rfl, rfl⟩)
          go_meet
          case rel => exact ⟨_, rfl, by decide, by omega, by omega, by go_grown⟩
      case rest =>
        obtain ⟨c, rfl, hcb, c0, c1, hBx⟩ := hcut
        have HBy := Lib.hid (HB.out.trans (hBx.mono HB.out.size))
        have hG2 := HG1.out.later hBx
        obtain ⟨n0, n1, n2, n3⟩ := hG2.cells
        simp only at n0 n1 n2 n3
        have HC := Lib.hid (show Tk.blank c = true ∧ 0 ≤ c ∧ c ≤ 255 from ⟨hcb, c0, c1⟩)
        obtain ⟨C, hC⟩ : ∃ C, strOfNums [c] = C := ⟨_, rfl⟩
        obtain ⟨D1, hD1⟩ : ∃ D, strOfNums (Nu.decV kd) = D := ⟨_, rfl⟩
        obtain ⟨D2, hD2⟩ : ∃ D, strOfNums (Nu.decV ww) = D := ⟨_, rfl⟩
        obtain ⟨D3, hD3⟩ : ∃ D, strOfNums (Nu.decV hh) = D := ⟨_, rfl⟩
        obtain ⟨D4, hD4⟩ : ∃ D, strOfNums (Nu.decV m) = D := ⟨_, rfl⟩
        have hc1s : C.size = 1 := by rw [← hC, strOfNums_size]; rfl
        rw [hD1] at HD1 SZ
        rw [hD2] at HD2 SZ
        rw [hD3] at HD3 SZ
        rw [hD4] at HD4 SZ
        rw [hC]
        have HDE : Hid (strOfNums [c] = C ∧ strOfNums (Nu.decV kd) = D1 ∧ strOfNums (Nu.decV ww) = D2 ∧ strOfNums (Nu.decV hh) = D3 ∧ strOfNums (Nu.decV m) = D4) := ⟨hC, hD1, hD2, hD3, hD4⟩
        have HC1 := Lib.hid hc1s
        obtain ⟨s1, s2, s3, s4⟩ := SZ.out
        have hos2 := HOS.out
        have L1 : ¬ 9223372036854775807 < 1 + D1.size := by omega
        have L2 : ¬ 9223372036854775807 < 1 + D1.size + o.size := by omega
        have L3 : ¬ 9223372036854775807 < 1 + D1.size + o.size + 1 := by omega
        have L4 : ¬ 9223372036854775807 < 1 + D1.size + o.size + 1 + C.size := by omega
        have L5 : ¬ 9223372036854775807 < 1 + D1.size + o.size + 1 + C.size + D2.size := by omega
        have L6 : ¬ 9223372036854775807 < 1 + D1.size + o.size + 1 + C.size + D2.size + C.size := by omega
        have L7 : ¬ 9223372036854775807 < 1 + D1.size + o.size + 1 + C.size + D2.size + C.size + o.size := by omega
        have L8 : ¬ 9223372036854775807 < 1 + D1.size + o.size + 1 + C.size + D2.size + C.size + o.size + 1 := by omega
        have L9 : ¬ 9223372036854775807 < 1 + D1.size + o.size + 1 + C.size + D2.size + C.size + o.size + 1 + C.size := by omega
        have L10 : ¬ 9223372036854775807 < 1 + D1.size + o.size + 1 + C.size + D2.size + C.size + o.size + 1 + C.size + D3.size := by omega
        have hBr : Below wc.heap.size wc wc := .refl _ _
        clear hBx hBt hC hD1 hD2 hD3 hD4 hc1s hcb c0 c1 hos2 s1 s2 s3 s4 hG2
        go_wp2_with fail
        go_cut [11] (fun s11 wx => s11 = .string ((⟨#[80]⟩ : ByteArray) ++ D1 ++ o ++ ⟨#[10]⟩ ++ C ++ D2 ++ C ++ o ++ ⟨#[13]⟩ ++ C ++ D3) ∧ Below wc.heap.size wc wx)
        case first =>
          go_region_held3 (fun w' => w'.cell? ⟨w1.heap.size, 0, none⟩ = some (.int .i64 kd) ∧ w'.cell? ⟨w1.heap.size, 1, none⟩ = some (.int .i64 ww) ∧ w'.cell? ⟨w1.heap.size, 2, none⟩ = some (.int .i64 hh))
            (first | exact ⟨n0, n1, n2⟩ | exact ⟨cell_later hBr n0, cell_later hBr n1, cell_later hBr n2⟩)
            (first
              | (go_at_call 39; with_reducible refine (HD1.out _).mono ?_; rintro e w8 ⟨rfl, hb8⟩; replace hBr := bel_step (w := wc) (by first | exact hBr | exact hBr.drew) hb8)
              | (go_at_call 39; with_reducible refine (HD2.out _).mono ?_; rintro e w8 ⟨rfl, hb8⟩; replace hBr := bel_step (w := wc) (by first | exact hBr | exact hBr.drew) hb8)
              | (go_at_call 39; with_reducible refine (HD3.out _).mono ?_; rintro e w8 ⟨rfl, hb8⟩; replace hBr := bel_step (w := wc) (by first | exact hBr | exact hBr.drew) hb8))
          all_goals
            go_wp2_with fail
            go_meet
            case rel => exact ⟨rfl, hBr⟩
        case rest =>
          obtain ⟨rfl, hBx⟩ := hcut
          replace n0 := cell_later hBx n0
          replace n1 := cell_later hBx n1
          replace n2 := cell_later hBx n2
          replace n3 := cell_later hBx n3
          replace HBy := Lib.hid (HBy.out.trans (hBx.mono HBy.out.size))
          obtain ⟨T, hT⟩ : ∃ T, (⟨#[80]⟩ : ByteArray) ++ D1 ++ o ++ ⟨#[10]⟩ ++ C ++ D2 ++ C ++ o ++ ⟨#[13]⟩ ++ C ++ D3 = T := ⟨_, rfl⟩
          rw [hT]
          have hTs : T.size ≤ 240 := by
            rw [← hT]
            simp only [ByteArray.size_append]
            rw [show (⟨#[80]⟩ : ByteArray).size = 1 from rfl, show (⟨#[10]⟩ : ByteArray).size = 1 from rfl, show (⟨#[13]⟩ : ByteArray).size = 1 from rfl]
            have s := SZ.out
            have s5 := HOS.out
            have s6 := HC1.out
            omega
          have HT := Lib.hid hT
          have HTS := Lib.hid hTs
          clear hBr hBx L1 L2 L3 L4 L5 L6 L7 L8 L9 L10 hT hTs
          obtain ⟨g, hg⟩ : ∃ g, Hd.bits kd = g := ⟨_, rfl⟩
          have HGB := Lib.hid hg
          have hkt := HKT.out
          have hk3 := HK3.out
          rw [hg] at hk3
          clear hg
          have s1 := SZ.out.2.2.2
          have s2 := HOS.out
          have s3 := HC1.out
          have s4 := HTS.out
          have M0 : ¬ 9223372036854775807 < T.size + C.size := by omega
          have M1 : ¬ 9223372036854775807 < T.size + o.size := by omega
          have M2 : ¬ 9223372036854775807 < T.size + o.size + 1 := by omega
          have M3 : ¬ 9223372036854775807 < T.size + o.size + 1 + C.size := by omega
          have M4 : ¬ 9223372036854775807 < T.size + o.size + 1 + C.size + D4.size := by omega
          have M5 : ¬ 9223372036854775807 < T.size + o.size + 1 + C.size + D4.size + C.size := by omega
          clear s1 s2 s3 s4
          cases g with
          | true =>
            obtain ⟨V, hV⟩ : ∃ V, T ++ C = V := ⟨_, rfl⟩
            have hVs : V.size ≤ 1000 := by
              rw [← hV]
              simp only [ByteArray.size_append]
              have s := SZ.out.2.2.2
              have s5 := HOS.out
              have s6 := HC1.out
              have s7 := HTS.out
              omega
            have HP : Hid (∀ W, Calls Try.prog 36 #[.string V, .agg #[.int .i64 4096, .int .i64 65536, .int .i64 65535]] W fun e w' => e = .returned (.tuple #[.agg #[.int .i64 kd, .int .i64 ww, .int .i64 hh, .int .i64 m], .int .i64 (V.size : Int), .int .i64 0]) ∧ Below W.heap.size W w') := fun W => by
              refine (hparse_any V hVs 4096 65536 65535 W).mono ?_
              rintro e w' ⟨rfl, hb⟩
              have hlim : Hd.limits 4096 65536 65535 = ⟨4096, 65536, 65535⟩ := rfl
              have hM := HMG.out
              obtain ⟨hcb, c0, c1⟩ := HC.out
              obtain ⟨q1, q2, q3, q4, q5⟩ := HDE.out
              have hpv := Hj.rem_parse (l := ⟨4096, 65536, 65535⟩) hM hM.2.1.2 hM.2.2.1.2 hM.2.2.2.1.2 HREM.out hcb c0 c1 (if Hd.bits kd = true then C else o ++ ⟨#[10]⟩ ++ C ++ D4 ++ C) V (by rw [q1, q5]) (by rw [q1, q2, q3, q4, HT.out, ← hV]; rw [if_pos HGB.out])
              unfold hcnt
              rw [hlim, hpv]
              exact ⟨rfl, hb⟩
            clear hVs
            go_wp2_with fail
            try rw [hV]
            refine (hall_any _).mono ?_
            rintro e w5 ⟨rfl, hb⟩
            replace HBy := Lib.hid (HBy.out.trans (hb.mono HBy.out.size))
            replace n0 := cell_later hb n0
            replace n1 := cell_later hb n1
            replace n2 := cell_later hb n2
            replace n3 := cell_later hb n3
            clear hb
            go_wp2_with fail
            try rw [hV]
            refine (HP.out _).mono ?_
            rintro e w6 ⟨rfl, hb⟩
            replace HBy := Lib.hid (HBy.out.trans (hb.mono HBy.out.size))
            replace n0 := cell_later hb n0
            replace n1 := cell_later hb n1
            replace n2 := cell_later hb n2
            replace n3 := cell_later hb n3
            clear hb M0 M1 M2 M3 M4 M5
            obtain ⟨Y, hY⟩ : ∃ Y, w6.alloc (.cells #[.int .i64 kd, .int .i64 ww, .int .i64 hh, .int .i64 m] 59) = Y := ⟨_, rfl⟩
            have hBY : Below w6.heap.size w6 Y := by rw [← hY]; exact (Below.refl _ _).alloc (Nat.le_refl _) _
            have hY6 : Hb Y w6.heap.size 59 ⟨kd, ww, hh, m⟩ := by rw [← hY]; exact Hb.new w6 _ ⟨kd, ww, hh, m⟩
            obtain ⟨l0, l1, l2, l3⟩ := hY6.cells
            simp only at l0 l1 l2 l3
            replace n0 := cell_later hBY n0
            replace n1 := cell_later hBY n1
            replace n2 := cell_later hBY n2
            replace n3 := cell_later hBY n3
            have HBU := Lib.hid (HBy.out.trans (hBY.mono HBy.out.size))
            have hBt : Below Y.heap.size Y Y := .refl _ _
            have hVV : ((V.size : Int) == (V.size : Int)) = true := by simp
            go_wp2_with fail
            try rw [hY]
            clear hY hBY hY6
            go_region_held3 (fun w' => w'.cell? ⟨w1.heap.size, 0, none⟩ = some (.int .i64 kd) ∧ w'.cell? ⟨w1.heap.size, 1, none⟩ = some (.int .i64 ww) ∧ w'.cell? ⟨w1.heap.size, 2, none⟩ = some (.int .i64 hh) ∧ w'.cell? ⟨w1.heap.size, 3, none⟩ = some (.int .i64 m) ∧ w'.cell? ⟨w6.heap.size, 0, none⟩ = some (.int .i64 kd) ∧ w'.cell? ⟨w6.heap.size, 1, none⟩ = some (.int .i64 ww) ∧ w'.cell? ⟨w6.heap.size, 2, none⟩ = some (.int .i64 hh) ∧ w'.cell? ⟨w6.heap.size, 3, none⟩ = some (.int .i64 m))
              (first | exact ⟨n0, n1, n2, n3, l0, l1, l2, l3⟩ | exact ⟨cell_later hBt n0, cell_later hBt n1, cell_later hBt n2, cell_later hBt n3, cell_later hBt l0, cell_later hBt l1, cell_later hBt l2, cell_later hBt l3⟩)
              (first
                | (go_at_call 38; refine (HAS.out _).mono ?_; rintro e w8 ⟨rfl, hb8⟩; replace hBt := bel_step (w := Y) (by first | exact hBt | exact hBt.drew) hb8)
                | (go_at_call 33; refine (lives6_any _).mono ?_; rintro e w8 ⟨rfl, hb8⟩; replace hBt := bel_step (w := Y) (by first | exact hBt | exact hBt.drew) hb8))
            all_goals
              go_wp2
              go_ret
              exact ⟨rfl, HBU.out.trans (hBt.mono HBU.out.size)⟩
          | false =>
            obtain ⟨V, hV⟩ : ∃ V, T ++ o ++ ⟨#[10]⟩ ++ C ++ D4 ++ C = V := ⟨_, rfl⟩
            have hVs : V.size ≤ 1000 := by
              rw [← hV]
              simp only [ByteArray.size_append]
              rw [show (⟨#[10]⟩ : ByteArray).size = 1 from rfl]
              have s := SZ.out.2.2.2
              have s5 := HOS.out
              have s6 := HC1.out
              have s7 := HTS.out
              omega
            have HP : Hid (∀ W, Calls Try.prog 36 #[.string V, .agg #[.int .i64 4096, .int .i64 65536, .int .i64 65535]] W fun e w' => e = .returned (.tuple #[.agg #[.int .i64 kd, .int .i64 ww, .int .i64 hh, .int .i64 m], .int .i64 (V.size : Int), .int .i64 0]) ∧ Below W.heap.size W w') := fun W => by
              refine (hparse_any V hVs 4096 65536 65535 W).mono ?_
              rintro e w' ⟨rfl, hb⟩
              have hlim : Hd.limits 4096 65536 65535 = ⟨4096, 65536, 65535⟩ := rfl
              have hM := HMG.out
              obtain ⟨hcb, c0, c1⟩ := HC.out
              obtain ⟨q1, q2, q3, q4, q5⟩ := HDE.out
              have hpv := Hj.rem_parse (l := ⟨4096, 65536, 65535⟩) hM hM.2.1.2 hM.2.2.1.2 hM.2.2.2.1.2 HREM.out hcb c0 c1 (if Hd.bits kd = true then C else o ++ ⟨#[10]⟩ ++ C ++ D4 ++ C) V (by rw [q1, q5]) (by rw [q1, q2, q3, q4, HT.out, ← hV]; rw [if_neg (by rw [HGB.out]; simp)]; simp only [ByteArray.append_assoc])
              unfold hcnt
              rw [hlim, hpv]
              exact ⟨rfl, hb⟩
            clear hVs
            go_wp2_with fail
            refine (HD4.out _).mono ?_
            rintro e w4 ⟨rfl, hb⟩
            replace HBy := Lib.hid (HBy.out.trans (hb.mono HBy.out.size))
            replace n0 := cell_later hb n0
            replace n1 := cell_later hb n1
            replace n2 := cell_later hb n2
            replace n3 := cell_later hb n3
            clear hb
            go_wp2_with fail
            try rw [hV]
            refine (hall_any _).mono ?_
            rintro e w5 ⟨rfl, hb⟩
            replace HBy := Lib.hid (HBy.out.trans (hb.mono HBy.out.size))
            replace n0 := cell_later hb n0
            replace n1 := cell_later hb n1
            replace n2 := cell_later hb n2
            replace n3 := cell_later hb n3
            clear hb
            go_wp2_with fail
            try rw [hV]
            refine (HP.out _).mono ?_
            rintro e w6 ⟨rfl, hb⟩
            replace HBy := Lib.hid (HBy.out.trans (hb.mono HBy.out.size))
            replace n0 := cell_later hb n0
            replace n1 := cell_later hb n1
            replace n2 := cell_later hb n2
            replace n3 := cell_later hb n3
            clear hb M0 M1 M2 M3 M4 M5
            obtain ⟨Y, hY⟩ : ∃ Y, w6.alloc (.cells #[.int .i64 kd, .int .i64 ww, .int .i64 hh, .int .i64 m] 59) = Y := ⟨_, rfl⟩
            have hBY : Below w6.heap.size w6 Y := by rw [← hY]; exact (Below.refl _ _).alloc (Nat.le_refl _) _
            have hY6 : Hb Y w6.heap.size 59 ⟨kd, ww, hh, m⟩ := by rw [← hY]; exact Hb.new w6 _ ⟨kd, ww, hh, m⟩
            obtain ⟨l0, l1, l2, l3⟩ := hY6.cells
            simp only at l0 l1 l2 l3
            replace n0 := cell_later hBY n0
            replace n1 := cell_later hBY n1
            replace n2 := cell_later hBY n2
            replace n3 := cell_later hBY n3
            have HBU := Lib.hid (HBy.out.trans (hBY.mono HBy.out.size))
            have hBt : Below Y.heap.size Y Y := .refl _ _
            have hVV : ((V.size : Int) == (V.size : Int)) = true := by simp
            go_wp2_with fail
            try rw [hY]
            clear hY hBY hY6
            go_region_held3 (fun w' => w'.cell? ⟨w1.heap.size, 0, none⟩ = some (.int .i64 kd) ∧ w'.cell? ⟨w1.heap.size, 1, none⟩ = some (.int .i64 ww) ∧ w'.cell? ⟨w1.heap.size, 2, none⟩ = some (.int .i64 hh) ∧ w'.cell? ⟨w1.heap.size, 3, none⟩ = some (.int .i64 m) ∧ w'.cell? ⟨w6.heap.size, 0, none⟩ = some (.int .i64 kd) ∧ w'.cell? ⟨w6.heap.size, 1, none⟩ = some (.int .i64 ww) ∧ w'.cell? ⟨w6.heap.size, 2, none⟩ = some (.int .i64 hh) ∧ w'.cell? ⟨w6.heap.size, 3, none⟩ = some (.int .i64 m))
              (first | exact ⟨n0, n1, n2, n3, l0, l1, l2, l3⟩ | exact ⟨cell_later hBt n0, cell_later hBt n1, cell_later hBt n2, cell_later hBt n3, cell_later hBt l0, cell_later hBt l1, cell_later hBt l2, cell_later hBt l3⟩)
              (first
                | (go_at_call 38; refine (HAS.out _).mono ?_; rintro e w8 ⟨rfl, hb8⟩; replace hBt := bel_step (w := Y) (by first | exact hBt | exact hBt.drew) hb8)
                | (go_at_call 33; refine (lives6_any _).mono ?_; rintro e w8 ⟨rfl, hb8⟩; replace hBt := bel_step (w := Y) (by first | exact hBt | exact hBt.drew) hb8))
            all_goals
              go_wp2
              go_ret
              exact ⟨rfl, HBU.out.trans (hBt.mono HBU.out.size)⟩
end Go.Proofs.Ytnbppkiiccbagaa

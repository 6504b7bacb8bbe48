/- PlainDigits: how many digits all samples of pixels have is the document's: the walk of the law. No condition. -/
import Derived.Test.YtldhhhmihfcalaaPlDg
import Derived.Test.YtldhhhmihfcalaaPlJ
namespace Go.Proofs.Ytldhhhmihfcalaa
open Go.RowKit
set_option linter.unusedVariables false
theorem size_nums (l : List Int) : (strOfNums l).size = l.length := by simp [strOfNums, ByteArray.size]
set_option maxRecDepth 100000 in
set_option maxHeartbeats 8000000 in
theorem plainDigits_walk (a0 : Option Addr) (len0 cap0 : Nat) (z0 : List Int) (w : World) (w0 : IsRow .u64 w a0 len0 cap0 z0) :
    Calls Try.prog 10 #[.slice a0 len0 cap0] w fun e w' => e = .returned (.bool true) ∧ Below w.heap.size w w' := by
  obtain ⟨l1, l2, l3, l4⟩ := isrow_len w0
  obtain ⟨m, hmm⟩ : ∃ m, ((len0 ≤ 12 ∧ m = len0) ∨ (12 < len0 ∧ m = 12)) := ⟨min len0 12, by omega⟩
  have hm1 : m ≤ len0 := by omega
  have hm12 : m ≤ 12 := by omega
  have hs0 := isrow_takeK w0 m hm1
  have hu0 : ∀ p ∈ z0.take m, Pq.Px.U p := fun p hp => by
    have h := isrow_wfK w0 p (List.mem_of_mem_take hp)
    simp [Lit.wf, IntKind.min, IntKind.max, IntKind.bits, IntKind.signed] at h
    unfold Pq.Px.U; omega
  generalize z0.take m = l at hs0 hu0
  have HS := Lib.hid hs0
  have HL := Lib.hid hs0.1
  have HU := Lib.hid hu0
  have HDG := Lib.hid (fun W cap hW => plDigits_any a0 m cap l (by omega) hu0 W hW)
  have hdT := Pl.dgA_in hu0
  obtain ⟨T, hT⟩ : ∃ T, Pl.dgA l = T := ⟨_, rfl⟩
  rw [hT] at HDG hdT
  have HT := Lib.hid hT
  clear w0 l2 hm1 hs0 hu0 hT
  rcases hmm with ⟨h, rfl⟩ | ⟨h, rfl⟩
  · have kd : min (m : Int) 12 = m := by omega
    clear h
    go_enter Try.func10, Try.ntmps10
    go_wp2_with fail
    go_loopw [3, 4] (fun u3 u4 wr => ∃ k : Nat, k ≤ m ∧ u4 = .int .i64 k ∧ u3 = .int .i64 (Pl.dgA (l.take k)) ∧ Below w.heap.size w wr) (fun _ u4 _ => m - (intOf u4).toNat)
    case atStart => exact ⟨0, Nat.zero_le _, rfl, rfl, .refl _ _⟩
    case round =>
      obtain ⟨k, hk, rfl, rfl, hB⟩ := hrel
      have HB := Lib.hid hB
      clear hB
      by_cases hlt : k < m
      · obtain ⟨p, hp⟩ : ∃ p, l.getD k 0 = p := ⟨_, rfl⟩
        have hkl : k < l.length := by rw [HL.out]; exact hlt
        have hU : Pq.Px.U p := by rw [← hp]; exact HU.out _ (getD_mem hkl)
        have HZ := Lib.hid (Pl.dgA_succ l k hkl)
        have hdA := Pl.dgA_in (l := l.take k) fun q hq => HU.out q (List.mem_of_mem_take hq)
        have hLT : (l.take k).length ≤ 12 := by rw [List.length_take]; omega
        have hsi := Pl.smp_in hU
        have HI := Lib.hid (Pl.smp_I hU)
        have HUP := Lib.hid (Pq.refUnpack_any p hU)
        obtain ⟨zs, hzs⟩ : ∃ zs, Pq.Px.smp p = zs := ⟨_, rfl⟩
        obtain ⟨A, hA⟩ : ∃ A, Pl.dgA (l.take k) = A := ⟨_, rfl⟩
        rw [hp, hzs, hA] at HZ
        rw [hzs] at HI HUP hsi
        rw [hA] at hdA ⊢
        obtain ⟨mz, hmz⟩ : ∃ m, zs.length = m := ⟨_, rfl⟩
        have HML := Lib.hid hmz
        have hm3 : mz ≤ 3 := by have := hsi.1; omega
        have hA0 : 0 ≤ A := hdA.1
        have hA1 : A ≤ 198000 := by omega
        obtain ⟨blk, off, ha0, hcell⟩ : ∃ blk off, a0 = some ⟨blk, off, none⟩ ∧ wr.cell? ⟨blk, off + k, none⟩ = some (.int .u64 p) := by
          rcases HS.out.2 with h | ⟨blk, off, ha, hc⟩
          · omega
          · exact ⟨blk, off, ha, cell_later HB.out (by rw [hc k hlt, hp])⟩
        subst ha0
        clear hp hU hdA hLT hsi hzs hA hmz hkl hdT
        go_wp2_with fail
        refine (HUP.out _).mono ?_
        rintro e w2 ⟨ad, cp, rfl, hO, hb2⟩
        rw [HML.out]
        have HO := Lib.hid hO.sl
        have HB2 := Lib.hid hb2
        clear hO hb2 hcell
        go_wp2_with fail
        go_loopw [3, 6] (fun u3 u6 wi => ∃ j : Nat, j ≤ mz ∧ u6 = .int .i64 j ∧ u3 = .int .i64 (A + Pl.dgL (zs.take j)) ∧ Below w2.heap.size w2 wi) (fun _ u6 _ => mz - (intOf u6).toNat)
        case atStart => exact ⟨0, Nat.zero_le _, rfl, by simp [Pl.dgL], .refl _ _⟩
        case round =>
          obtain ⟨j, hj, rfl, rfl, hC⟩ := hrel
          have HC := Lib.hid hC
          clear hC
          by_cases hjt : j < mz
          · obtain ⟨s, hs⟩ : ∃ s, zs.getD j 0 = s := ⟨_, rfl⟩
            have hjl : j < zs.length := by rw [HML.out]; exact hjt
            have hsI : Nu.I s := by rw [← hs]; exact HI.out _ (getD_mem hjl)
            have HY := Lib.hid (Pl.dgL_succ zs j hjl)
            have hdL := Pl.dgL_in (l := zs.take j) fun q hq => HI.out q (List.mem_of_mem_take hq)
            have hTL : (zs.take j).length ≤ 3 := by rw [List.length_take]; omega
            have hpl := Pl.places_in hsI
            have HPL := Lib.hid (refDecimal_any s hsI)
            obtain ⟨B, hB⟩ : ∃ B, Pl.dgL (zs.take j) = B := ⟨_, rfl⟩
            obtain ⟨S, hS⟩ : ∃ S, strOfNums (Nu.decV s) = S := ⟨_, rfl⟩
            obtain ⟨q, hq⟩ : ∃ q, S.size = q := ⟨_, rfl⟩
            have hpq : Nu.places s = (q : Int) := by rw [← hq, ← hS, size_nums, Pl.decV_len]
            rw [hs, hB, hpq] at HY
            rw [hB] at hdL ⊢
            rw [hS] at HPL
            have HQ := Lib.hid hq
            obtain ⟨b2, o2, hb2, hcell⟩ : ∃ blk off, ad = some ⟨blk, off, none⟩ ∧ wr.cell? ⟨blk, off + j, none⟩ = some (.int .i64 s) := by
              rcases HO.out.2 with h | ⟨blk, off, ha, hc⟩
              · rw [HML.out] at h; omega
              · exact ⟨blk, off, ha, cell_later HC.out (by rw [hc j (by rw [HML.out]; exact hjt), hs])⟩
            subst hb2
            have q0 : 0 ≤ A + B := by omega
            have q1 : A + B ≤ 200000 := by omega
            have q3 : q ≤ 66 := by omega
            obtain ⟨X, hX⟩ : ∃ X, A + B = X := ⟨_, rfl⟩
            rw [hX] at q0 q1 ⊢
            have HX := Lib.hid hX
            have g1 : wrap64 (X + (q : Int)) = X + q := by rw [IntWalk.wrap64_in] <;> omega
            clear hs hsI hjl hdL hTL hpl hB hq hX hpq hS
            go_wp2_with (go_at_call 33; refine (HPL.out _).mono ?_; rintro e w3 ⟨rfl, hb3⟩; have HB3 := Lib.hid hb3; have hq := HQ.out; clear hb3)
            go_roundw
            case rel => exact ⟨j + 1, by omega, by go_num, by rw [HY.out]; have := HX.out; rw [show A + (B + (q : Int)) = X + q by omega], HC.out.trans (HB3.out.mono HC.out.size)⟩
            case measure => simp [intOf]; omega
          · have hje : j = mz := by omega
            have HF : Hid (zs.take j = zs) := Lib.hid (List.take_of_length_le (by rw [HML.out]; omega))
            clear hje
            go_wp2_with fail
            go_roundw
            case rel => exact ⟨k + 1, by omega, by go_num, by rw [HZ.out, HF.out], HB.out.trans ((HB2.out.trans (HC.out.mono HB2.out.size)).mono HB.out.size)⟩
            case measure => simp [intOf]; omega
      · have HF : Hid (l.take k = l) := Lib.hid (List.take_of_length_le (by rw [HL.out]; omega))
        rw [HF.out, HT.out]
        go_wp2_with (first
          | (go_at_call 55; refine (HDG.out _ _ (HS.out.below HB.out)).mono ?_; rintro e w5 ⟨rfl, hb5⟩; have HB5 := Lib.hid (HB.out.trans (hb5.mono HB.out.size)); clear hb5)
          | (go_at_call 41; refine (lives8_any _).mono ?_; rintro e w6 ⟨rfl, hb6⟩; have HB6 := Lib.hid (HB5.out.trans (hb6.mono HB5.out.size)); clear hb6))
        go_ret
        exact ⟨rfl, HB6.out⟩
  · have kd : min (len0 : Int) 12 = 12 := by omega
    have l5 : 12 ≤ cap0 := by omega
    go_enter Try.func10, Try.ntmps10
    go_wp2_with fail
    go_loopw [3, 4] (fun u3 u4 wr => ∃ k : Nat, k ≤ 12 ∧ u4 = .int .i64 k ∧ u3 = .int .i64 (Pl.dgA (l.take k)) ∧ Below w.heap.size w wr) (fun _ u4 _ => 12 - (intOf u4).toNat)
    case atStart => exact ⟨0, Nat.zero_le _, rfl, rfl, .refl _ _⟩
    case round =>
      obtain ⟨k, hk, rfl, rfl, hB⟩ := hrel
      have HB := Lib.hid hB
      clear hB
      by_cases hlt : k < 12
      · obtain ⟨p, hp⟩ : ∃ p, l.getD k 0 = p := ⟨_, rfl⟩
        have hkl : k < l.length := by rw [HL.out]; exact hlt
        have hU : Pq.Px.U p := by rw [← hp]; exact HU.out _ (getD_mem hkl)
        have HZ := Lib.hid (Pl.dgA_succ l k hkl)
        have hdA := Pl.dgA_in (l := l.take k) fun q hq => HU.out q (List.mem_of_mem_take hq)
        have hLT : (l.take k).length ≤ 12 := by rw [List.length_take]; omega
        have hsi := Pl.smp_in hU
        have HI := Lib.hid (Pl.smp_I hU)
        have HUP := Lib.hid (Pq.refUnpack_any p hU)
        obtain ⟨zs, hzs⟩ : ∃ zs, Pq.Px.smp p = zs := ⟨_, rfl⟩
        obtain ⟨A, hA⟩ : ∃ A, Pl.dgA (l.take k) = A := ⟨_, rfl⟩
        rw [hp, hzs, hA] at HZ
        rw [hzs] at HI HUP hsi
        rw [hA] at hdA ⊢
        obtain ⟨mz, hmz⟩ : ∃ m, zs.length = m := ⟨_, rfl⟩
        have HML := Lib.hid hmz
        have hm3 : mz ≤ 3 := by have := hsi.1; omega
        have hA0 : 0 ≤ A := hdA.1
        have hA1 : A ≤ 198000 := by omega
        obtain ⟨blk, off, ha0, hcell⟩ : ∃ blk off, a0 = some ⟨blk, off, none⟩ ∧ wr.cell? ⟨blk, off + k, none⟩ = some (.int .u64 p) := by
          rcases HS.out.2 with h | ⟨blk, off, ha, hc⟩
          · omega
          · exact ⟨blk, off, ha, cell_later HB.out (by rw [hc k hlt, hp])⟩
        subst ha0
        clear hp hU hdA hLT hsi hzs hA hmz hkl hdT
        go_wp2_with fail
        refine (HUP.out _).mono ?_
        rintro e w2 ⟨ad, cp, rfl, hO, hb2⟩
        rw [HML.out]
        have HO := Lib.hid hO.sl
        have HB2 := Lib.hid hb2
        clear hO hb2 hcell
        go_wp2_with fail
        go_loopw [3, 6] (fun u3 u6 wi => ∃ j : Nat, j ≤ mz ∧ u6 = .int .i64 j ∧ u3 = .int .i64 (A + Pl.dgL (zs.take j)) ∧ Below w2.heap.size w2 wi) (fun _ u6 _ => mz - (intOf u6).toNat)
        case atStart => exact ⟨0, Nat.zero_le _, rfl, by simp [Pl.dgL], .refl _ _⟩
        case round =>
          obtain ⟨j, hj, rfl, rfl, hC⟩ := hrel
          have HC := Lib.hid hC
          clear hC
          by_cases hjt : j < mz
          · obtain ⟨s, hs⟩ : ∃ s, zs.getD j 0 = s := ⟨_, rfl⟩
            have hjl : j < zs.length := by rw [HML.out]; exact hjt
            have hsI : Nu.I s := by rw [← hs]; exact HI.out _ (getD_mem hjl)
            have HY := Lib.hid (Pl.dgL_succ zs j hjl)
            have hdL := Pl.dgL_in (l := zs.take j) fun q hq => HI.out q (List.mem_of_mem_take hq)
            have hTL : (zs.take j).length ≤ 3 := by rw [List.length_take]; omega
            have hpl := Pl.places_in hsI
            have HPL := Lib.hid (refDecimal_any s hsI)
            obtain ⟨B, hB⟩ : ∃ B, Pl.dgL (zs.take j) = B := ⟨_, rfl⟩
            obtain ⟨S, hS⟩ : ∃ S, strOfNums (Nu.decV s) = S := ⟨_, rfl⟩
            obtain ⟨q, hq⟩ : ∃ q, S.size = q := ⟨_, rfl⟩
            have hpq : Nu.places s = (q : Int) := by rw [← hq, ← hS, size_nums, Pl.decV_len]
            rw [hs, hB, hpq] at HY
            rw [hB] at hdL ⊢
            rw [hS] at HPL
            have HQ := Lib.hid hq
            obtain ⟨b2, o2, hb2, hcell⟩ : ∃ blk off, ad = some ⟨blk, off, none⟩ ∧ wr.cell? ⟨blk, off + j, none⟩ = some (.int .i64 s) := by
              rcases HO.out.2 with h | ⟨blk, off, ha, hc⟩
              · rw [HML.out] at h; omega
              · exact ⟨blk, off, ha, cell_later HC.out (by rw [hc j (by rw [HML.out]; exact hjt), hs])⟩
            subst hb2
            have q0 : 0 ≤ A + B := by omega
            have q1 : A + B ≤ 200000 := by omega
            have q3 : q ≤ 66 := by omega
            obtain ⟨X, hX⟩ : ∃ X, A + B = X := ⟨_, rfl⟩
            rw [hX] at q0 q1 ⊢
            have HX := Lib.hid hX
            have g1 : wrap64 (X + (q : Int)) = X + q := by rw [IntWalk.wrap64_in] <;> omega
            clear hs hsI hjl hdL hTL hpl hB hq hX hpq hS
            go_wp2_with (go_at_call 33; refine (HPL.out _).mono ?_; rintro e w3 ⟨rfl, hb3⟩; have HB3 := Lib.hid hb3; have hq := HQ.out; clear hb3)
            go_roundw
            case rel => exact ⟨j + 1, by omega, by go_num, by rw [HY.out]; have := HX.out; rw [show A + (B + (q : Int)) = X + q by omega], HC.out.trans (HB3.out.mono HC.out.size)⟩
            case measure => simp [intOf]; omega
          · have hje : j = mz := by omega
            have HF : Hid (zs.take j = zs) := Lib.hid (List.take_of_length_le (by rw [HML.out]; omega))
            clear hje
            go_wp2_with fail
            go_roundw
            case rel => exact ⟨k + 1, by omega, by go_num, by rw [HZ.out, HF.out], HB.out.trans ((HB2.out.trans (HC.out.mono HB2.out.size)).mono HB.out.size)⟩
            case measure => simp [intOf]; omega
      · have HF : Hid (l.take k = l) := Lib.hid (List.take_of_length_le (by rw [HL.out]; omega))
        rw [HF.out, HT.out]
        go_wp2_with (first
          | (go_at_call 55; refine (HDG.out _ _ (HS.out.below HB.out)).mono ?_; rintro e w5 ⟨rfl, hb5⟩; have HB5 := Lib.hid (HB.out.trans (hb5.mono HB.out.size)); clear hb5)
          | (go_at_call 41; refine (lives8_any _).mono ?_; rintro e w6 ⟨rfl, hb6⟩; have HB6 := Lib.hid (HB5.out.trans (hb6.mono HB5.out.size)); clear hb6))
        go_ret
        exact ⟨rfl, HB6.out⟩
end Go.Proofs.Ytldhhhmihfcalaa

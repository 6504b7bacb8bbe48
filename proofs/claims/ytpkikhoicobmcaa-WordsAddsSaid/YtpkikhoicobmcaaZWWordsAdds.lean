/- WordsAdds: the rows of a set, their numbers, and their widths, by the code and by the document. The walk of the law. No condition. -/
import Derived.Test.YtpkikhoicobmcaaZWdP
namespace Go.Proofs.Ytpkikhoicobmcaa
open Go.RowKit
set_option linter.unusedVariables false
open Tr Au Wd
theorem row_out {S : LL} {n : Int} (h : out S n) : rowV' S n = [] := by unfold rowV'; rw [if_pos h]
theorem row_in {S : LL} {k : Nat} (h : k < S.length) : rowV' S (k : Int) = S.getD k [] := by unfold rowV'; rw [if_neg (by unfold out; omega), Int.toNat_natCast]
theorem kids_sl {w w' : World} {e : Ending} {l : List Int} (h : KidsR l w e w') : ∃ a c, e = .returned (.slice a l.length c) ∧ SlK .u64 w' a l.length l ∧ Below w.heap.size w w' := by
  obtain ⟨v, rfl, ho, hb⟩ := h
  obtain ⟨a, c, rfl, hk, _⟩ := ownK_row rfl ho
  exact ⟨a, c, rfl, hk.sl, hb⟩
set_option maxRecDepth 100000 in
set_option maxHeartbeats 8000000 in
theorem wordsAdds_walk (a0 : Option Addr) (len0 cap0 : Nat) (a1 : Bool) (a2 : Int) (w : World) (w0 : IsRows w a0 len0 cap0) (w2 : (Lit.int .i64 a2).wf = true) :
    Calls Try.prog 3 #[.slice a0 len0 cap0, .bool a1, .int .i64 a2] w fun e w' => e = .returned (.bool true) ∧ Below w.heap.size w w' := by
  obtain ⟨A, N, C, Z, hat⟩ := isrows_at w0
  obtain ⟨S, _, hok, hl8, hd5, hB⟩ := begin14_use (cap := cap0) hat (isrows_len w0) a1
  have HBG := Lib.hid hB
  unfold BegU at HBG
  have HOK := Lib.hid hok
  have HD := Lib.hid hd5
  have HPOS := Lib.hid (ok_pos hok)
  obtain ⟨sn, hsn⟩ : ∃ sn, S.length = sn := ⟨_, rfl⟩
  have HSN := Lib.hid hsn
  rw [hsn] at HBG hl8
  have HLV := Lib.hid (fun W => lives14_any W)
  have ha2 := wfI w2
  have HPD := Lib.hid (fun p hp => Nat.le_trans (paths_dep hd5 p hp) (by omega : 5 ≤ 1000))
  clear w0 hat hok hd5 hB hsn w2
  go_enter Try.func3, Try.ntmps3
  go_upto_region 4 with (go_at_call 9; refine HBG.out.mono ?_; rintro e w1 ⟨B, sb, tb, nb, nc, mb, rv, ra, rc, vs, rfl, hX, hrv, hlo, hb⟩; have HX := Lib.hid hX; have HRV := Lib.hid hrv; have HLO := Lib.hid hlo; have HB := Lib.hid hb; clear hX hrv hlo hb)
  obtain ⟨F, hF⟩ : ∃ F : Nat → Prop, Fw sb tb nb mb (pathsOf S).length rv = F := ⟨_, rfl⟩
  have HF := Lib.hid hF
  rw [hF] at HRV
  have HFLT : Hid (∀ g, F g → B ≤ g ∧ g < w1.heap.size) := Lib.hid (fun g hg => by rw [← hF] at hg; exact HX.out.x.lt hg)
  have HFS : Hid (F sb) := Lib.hid (by rw [← hF]; exact .inr (.inl rfl))
  clear hF
  go_wp2_with fail
  go_loopw [9] (fun s9 wr => ∃ k : Nat, k ≤ sn ∧ s9 = .int .i64 (k : Int) ∧ Below w1.heap.size w1 wr) (fun s9 _ => sn - (intOf s9).toNat)
  case atStart => exact ⟨0, Nat.zero_le _, rfl, Below.refl _ _⟩
  case round =>
    obtain ⟨k, hk, rfl, hb⟩ := hrel
    have HBr0 := Lib.hid hb
    clear hb
    by_cases hlt : k < sn
    · have hkI : (k : Int) < (sn : Int) := by omega
      have hk0 : (0 : Int) ≤ (k : Int) := Int.natCast_nonneg _
      obtain ⟨br, or_, ai, ci, rfl, e1, e2, e3, e4⟩ := rv_row (HRV.out wr (sep_of HBr0.out)) hlt
      have HRO := Lib.hid (fun W (hb : Below wr.heap.size wr W) => wRow_any (HX.out.x.later (bel_step HBr0.out hb)) HOK.out HPD.out (k : Int))
      rw [row_in (by rw [HSN.out]; exact hlt)] at HRO
      have HE2 := Lib.hid e2
      obtain ⟨p, hp⟩ : ∃ p, S.getD k [] = p := ⟨_, rfl⟩
      rw [hp] at HRO e1 e3 HE2
      obtain ⟨pm, hpm⟩ : ∃ pm, p.length = pm := ⟨_, rfl⟩
      have HPM := Lib.hid hpm
      rw [hpm] at e1 e3 HE2
      have hBr := Below.refl wr.heap.size wr
      clear e2 hp hpm
      go_wp2_with fail
      go_region_held3 (fun w' => w'.cell? ⟨br, or_ + k, none⟩ = some (.slice ai pm ci))
        (first | exact e1 | exact cell_later hBr e1)
        (first
          | (go_at_call 11; refine (HRO.out _ (by first | exact hBr | exact hBr.drew)).mono ?_; rintro e w8 hkr; obtain ⟨ka, kc, rfl, hks, hb8⟩ := kids_sl hkr; rw [HPM.out] at hks ⊢; have HKS := Lib.hid hks; replace hBr := bel_step (by first | exact hBr | exact hBr.drew) hb8; have HBK := Lib.hid hBr; clear hks hb8 hkr)
          | (go_at_call 10; refine (Su.sameRow_any _ _ pm pm _ _ p p _ (by omega) (by exact HKS.out) (by first | exact HE2.out.below hBr | exact HE2.out.below hBr.drew)).mono ?_; rw [decide_eq_true rfl]; rintro e w10 ⟨rfl, hb10⟩; replace hBr := bel_step (by first | exact hBr | exact hBr.drew) hb10; clear hb10))
      all_goals
        go_wp2_with fail
        go_roundw
        case rel => exact ⟨k + 1, by omega, by go_num, bel_step HBr0.out hBr⟩
        case measure => simp [intOf]; omega
    · obtain rfl : k = sn := by omega
      have hkI : ¬ (k : Int) < (k : Int) := by omega
      have HX2 := Lib.hid (HX.out.later HBr0.out)
      have HLE := Lib.hid (wLen_any HX2.out.x)
      rw [HSN.out] at HLE
      have HWI := Lib.hid (wWidths_any HX2.out.x HOK.out (by rw [HSN.out]; omega))
      have HRW := Lib.hid (fun W (hb : Below wr.heap.size wr W) => refWidths14 (rc := rc) (HRV.out W (sep_of (bel_step HBr0.out hb))) (by omega) HD.out)
      unfold WidR at HWI HRW
      have hwl : (widV S).length ≤ 6 := by have h1 := widK_len S (topV S); have h2 := top_le HD.out; unfold widV; omega
      have HRN := Lib.hid (fun W (hb : Below wr.heap.size wr W) (n : Int) (hn : out S n) => by
        have h := wRow_any (HX2.out.x.later hb) HOK.out HPD.out n
        rw [row_out hn] at h
        exact h)
      obtain ⟨V, hV⟩ : ∃ V, widV S = V := ⟨_, rfl⟩
      rw [hV] at HWI HRW hwl
      obtain ⟨vn, hvn⟩ : ∃ vn, V.length = vn := ⟨_, rfl⟩
      have HVN := Lib.hid hvn
      rw [hvn] at HWI HRW hwl
      have hkk : ((k : Int) == (k : Int)) = true := by simp
      have HO1 : Hid (out S (-1)) := Lib.hid (.inl (by omega))
      have HO2 : Hid (out S (k : Int)) := Lib.hid (.inr (by rw [HSN.out]; omega))
      clear hV hvn
      by_cases hi1 : 0 ≤ a2
      · by_cases hi2 : a2 < (k : Int)
        · go_wp2_with (go_at_call 12; refine HLE.out.mono ?_; rintro e w2 ⟨rfl, rfl⟩)
          refine HWI.out.mono ?_
          rintro e w3 ⟨va, vc, rfl, hvo, hb3⟩
          have HVO := Lib.hid hvo
          have HB3 := Lib.hid hb3
          clear hvo hb3
          go_wp2_with fail
          refine (HRW.out _ HB3.out).mono ?_
          rintro e w4 ⟨ua, uc, rfl, huo, hb4⟩
          have HUO := Lib.hid huo
          have HB4 := Lib.hid hb4
          clear huo hb4
          go_wp2_with fail
          refine (Sm.same_self va ua vn vn vc uc V w4 (by omega) (by have h := (HVO.out.later HB4.out).sl; rw [HVN.out] at h; exact h) (by have h := HUO.out.sl; rw [HVN.out] at h; exact h)).mono ?_
          rintro e w5 ⟨rfl, hb5⟩
          have HB5 := Lib.hid (bel_step HB3.out (bel_step HB4.out hb5))
          clear hb5
          go_wp2_with fail
          refine (HRN.out _ HB5.out _ HO1.out).mono ?_
          rintro e w7 hkr
          obtain ⟨ka7, kc7, rfl, _, hb7⟩ := kids_sl hkr
          rw [List.length_nil]
          have HB7 := Lib.hid (bel_step HB5.out hb7)
          clear hkr hb7
          go_wp2_with fail
          refine (HRN.out _ HB7.out _ HO2.out).mono ?_
          rintro e w8 hkr
          obtain ⟨ka8, kc8, rfl, _, hb8⟩ := kids_sl hkr
          rw [List.length_nil]
          have HB8 := Lib.hid (bel_step HB7.out hb8)
          clear hkr hb8
          go_wp2_with fail
          refine (HLV.out _).mono ?_
          rintro e w9 ⟨rfl, hb9⟩
          have HB9 := Lib.hid (bel_step HB8.out hb9)
          clear hb9
          go_wp2_with fail
          go_ret
          exact ⟨rfl, bel_step HB.out (bel_step HBr0.out HB9.out)⟩
        · have HO3 : Hid (out S a2) := Lib.hid (.inr (by rw [HSN.out]; omega))
          go_wp2_with (go_at_call 12; refine HLE.out.mono ?_; rintro e w2 ⟨rfl, rfl⟩)
          refine HWI.out.mono ?_
          rintro e w3 ⟨va, vc, rfl, hvo, hb3⟩
          have HVO := Lib.hid hvo
          have HB3 := Lib.hid hb3
          clear hvo hb3
          go_wp2_with fail
          refine (HRW.out _ HB3.out).mono ?_
          rintro e w4 ⟨ua, uc, rfl, huo, hb4⟩
          have HUO := Lib.hid huo
          have HB4 := Lib.hid hb4
          clear huo hb4
          go_wp2_with fail
          refine (Sm.same_self va ua vn vn vc uc V w4 (by omega) (by have h := (HVO.out.later HB4.out).sl; rw [HVN.out] at h; exact h) (by have h := HUO.out.sl; rw [HVN.out] at h; exact h)).mono ?_
          rintro e w5 ⟨rfl, hb5⟩
          have HB5 := Lib.hid (bel_step HB3.out (bel_step HB4.out hb5))
          clear hb5
          go_wp2_with fail
          refine (HRN.out _ HB5.out _ HO3.out).mono ?_
          rintro e w6 hkr
          obtain ⟨ka6, kc6, rfl, _, hb6⟩ := kids_sl hkr
          rw [List.length_nil]
          have HB6 := Lib.hid (bel_step HB5.out hb6)
          clear hkr hb6
          go_wp2_with fail
          refine (HRN.out _ HB6.out _ HO1.out).mono ?_
          rintro e w7 hkr
          obtain ⟨ka7, kc7, rfl, _, hb7⟩ := kids_sl hkr
          rw [List.length_nil]
          have HB7 := Lib.hid (bel_step HB6.out hb7)
          clear hkr hb7
          go_wp2_with fail
          refine (HRN.out _ HB7.out _ HO2.out).mono ?_
          rintro e w8 hkr
          obtain ⟨ka8, kc8, rfl, _, hb8⟩ := kids_sl hkr
          rw [List.length_nil]
          have HB8 := Lib.hid (bel_step HB7.out hb8)
          clear hkr hb8
          go_wp2_with fail
          refine (HLV.out _).mono ?_
          rintro e w9 ⟨rfl, hb9⟩
          have HB9 := Lib.hid (bel_step HB8.out hb9)
          clear hb9
          go_wp2_with fail
          go_ret
          exact ⟨rfl, bel_step HB.out (bel_step HBr0.out HB9.out)⟩
      · have HO3 : Hid (out S a2) := Lib.hid (.inl (by omega))
        go_wp2_with (go_at_call 12; refine HLE.out.mono ?_; rintro e w2 ⟨rfl, rfl⟩)
        refine HWI.out.mono ?_
        rintro e w3 ⟨va, vc, rfl, hvo, hb3⟩
        have HVO := Lib.hid hvo
        have HB3 := Lib.hid hb3
        clear hvo hb3
        go_wp2_with fail
        refine (HRW.out _ HB3.out).mono ?_
        rintro e w4 ⟨ua, uc, rfl, huo, hb4⟩
        have HUO := Lib.hid huo
        have HB4 := Lib.hid hb4
        clear huo hb4
        go_wp2_with fail
        refine (Sm.same_self va ua vn vn vc uc V w4 (by omega) (by have h := (HVO.out.later HB4.out).sl; rw [HVN.out] at h; exact h) (by have h := HUO.out.sl; rw [HVN.out] at h; exact h)).mono ?_
        rintro e w5 ⟨rfl, hb5⟩
        have HB5 := Lib.hid (bel_step HB3.out (bel_step HB4.out hb5))
        clear hb5
        go_wp2_with fail
        refine (HRN.out _ HB5.out _ HO3.out).mono ?_
        rintro e w6 hkr
        obtain ⟨ka6, kc6, rfl, _, hb6⟩ := kids_sl hkr
        rw [List.length_nil]
        have HB6 := Lib.hid (bel_step HB5.out hb6)
        clear hkr hb6
        go_wp2_with fail
        refine (HRN.out _ HB6.out _ HO1.out).mono ?_
        rintro e w7 hkr
        obtain ⟨ka7, kc7, rfl, _, hb7⟩ := kids_sl hkr
        rw [List.length_nil]
        have HB7 := Lib.hid (bel_step HB6.out hb7)
        clear hkr hb7
        go_wp2_with fail
        refine (HRN.out _ HB7.out _ HO2.out).mono ?_
        rintro e w8 hkr
        obtain ⟨ka8, kc8, rfl, _, hb8⟩ := kids_sl hkr
        rw [List.length_nil]
        have HB8 := Lib.hid (bel_step HB7.out hb8)
        clear hkr hb8
        go_wp2_with fail
        refine (HLV.out _).mono ?_
        rintro e w9 ⟨rfl, hb9⟩
        have HB9 := Lib.hid (bel_step HB8.out hb9)
        clear hb9
        go_wp2_with fail
        go_ret
        exact ⟨rfl, bel_step HB.out (bel_step HBr0.out HB9.out)⟩
end Go.Proofs.Ytpkikhoicobmcaa

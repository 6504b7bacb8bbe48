/- TurnSame: the turns that lay a matrix as it is are the document's; there are as many ways that are not the same as 8 divided by how many these are: the walk of the law. No condition. -/
import Derived.Test.YtlihkdbbcnmbmaaTurW
import Derived.Test.YtlihkdbbcnmbmaaTurX
import Derived.Test.YtlihkdbbcnmbmaaRecQ
namespace Go.Proofs.Ytlihkdbbcnmbmaa
open Go.RowKit
set_option linter.unusedVariables false

theorem eight_ints : ((List.range 8).map fun i : Nat => (i : Int)) = [0, 1, 2, 3, 4, 5, 6, 7] := by decide
theorem mk_key {most W H g : Nat} {L : List Int} (h : Mk most W H L) (hm : most ≤ 8) : Tu.keyOf W H L g = some (Tu.keyG W H L g) := by
  unfold Tu.keyOf
  rw [if_pos (mk_sized h hm)]; rfl
theorem eight_ways {most W H : Nat} {L : List Int} (h : Mk most W H L) (hm : most ≤ 8) : (Tu.orbO W H L [0, 1, 2, 3, 4, 5, 6, 7]).1.length * (Tu.stabL W H L 8).length = 8 := by
  have := (Tu.orb_keys (fun g hg => mk_key h hm) 8 (Nat.le_refl _)).2
  rw [eight_ints] at this
  rw [this]
  unfold Tu.stabL
  rw [List.length_map]
  exact Tu.stab_count W H L
set_option maxRecDepth 100000 in
set_option maxHeartbeats 16000000 in
theorem turnSame_walk (a0w0 : Int) (a0h1 : Int) (a0 : Option Addr) (len0 cap0 : Nat) (z0 : List Int) (w : World) (w00 : (Lit.int .i64 a0w0).wf = true) (w01 : (Lit.int .i64 a0h1).wf = true) (w02 : IsRow .u64 w a0 len0 cap0 z0) :
    Calls Try.prog 10 #[.agg #[.int .i64 a0w0, .int .i64 a0h1, .slice a0 len0 cap0]] w fun e w' => e = .returned (.bool true) ∧ Below w.heap.size w w' := by
  obtain ⟨W, H, n, L, hmk, hn, -, hGood⟩ := good_n 4 a0w0 a0h1 a0 len0 cap0 (z0.take len0) (wfI w00) (wfI w01) (by omega) (by omega) (isrow_len w02).1 w (px_take w02 len0) (row_slk w02)
  have hn64 : n ≤ 64 := hn ▸ mk_n hmk (by decide)
  have HMK := Lib.hid hmk
  have HN := Lib.hid hn
  have HLn := Lib.hid (show L.length = n from hmk.2.2.2.2.trans hn)
  have HEQ := Lib.hid (fun g => Tu.stab_eq (g := g) hmk.2.2.2.2)
  have HW8 := Lib.hid (eight_ways hmk (by decide))
  have HGD := Lib.hid hGood
  have B := box1 w (.cells #[.int .i64 a0w0, .int .i64 a0h1, .slice a0 len0 cap0] 25)
  obtain ⟨i0, hi, hz0, hzs, hz2⟩ := info_parts Try.info_in
  clear hmk hn hGood w00 w01 w02
  go_enter Try.func10, Try.ntmps10
  go_wp2_with fail
  refine (HGD.out _ B).mono ?_
  rintro e w1 ⟨ga, gc, rfl, oo, hc1, hc2, hb1⟩
  replace B := bel_step B hb1
  have hb := box1 w1 (.cells #[.int .i64 W, .int .i64 H, .slice ga n gc] 25)
  replace B := bel_step B hb
  have FX := Sb.new w1 25 (.int .i64 W) (.int .i64 H) (.slice ga n gc)
  have SX : SlK .u64 (w1.alloc (.cells #[.int .i64 W, .int .i64 H, .slice ga n gc] 25)) ga n L := by have := (oo.later hb).sl; rwa [HLn.out] at this
  obtain ⟨V1, hV1⟩ : ∃ V, w1.alloc (.cells #[.int .i64 W, .int .i64 H, .slice ga n gc] 25) = V := ⟨_, rfl⟩
  have hz1 : w1.heap.size < V1.heap.size := by rw [← hV1]; simp
  rw [hV1] at B FX SX
  obtain ⟨x0, x1, x2⟩ := FX.cells
  clear oo hb hb1
  go_wp2_with fail
  refine (of4_any _ _ _ _ _ _).mono ?_
  rintro e w2 ⟨rfl, hb2⟩
  clear x0 x1 x2 hV1
  replace B := bel_step B hb2
  replace FX := FX.later hb2
  replace SX := SX.below hb2
  go_wp2_with fail
  refine (turnSame_any HMK.out (by decide) HN.out ga gc hc1 hc2 _ SX).mono ?_
  rintro e w3 ⟨v, rfl, hrow, hb3⟩
  obtain ⟨sa, sc, rfl, hown, hscap⟩ := ownK_row rfl hrow
  replace B := bel_step B hb3
  have HFX := Lib.hid (FX.later hb3)
  have HSX := Lib.hid (SX.below hb3)
  have HSS := Lib.hid hown.sl
  have HB := Lib.hid B
  have HLT := Lib.hid FX.lt
  have hltx : w1.heap.size < w3.heap.size := Nat.lt_of_lt_of_le FX.lt hb3.size
  obtain ⟨N2, hN2⟩ : ∃ N, (Tu.stabL W H L 8).length = N := ⟨_, rfl⟩
  rw [hN2] at HSS HW8 ⊢
  have HN2 := Lib.hid hN2
  clear B FX SX hb2 hb3 hrow hown hN2
  go_wp2
  go_loopg [5, 6] 8 (fun gg s5 s6 wr => ∃ k : Nat, k + gg = 8 ∧ s6 = .int .i64 k ∧ Below w3.heap.size w3 wr ∧ wr.ownsRow w3.heap.size 3 1 s5 (Tu.stabL W H L k).length ((Tu.stabL W H L k).map (Value.int .i64)))
  case atStart => exact ⟨0, by omega, rfl, Below.refl _ _, World.ownsRow_nil _ _ _ _⟩
  case round =>
    obtain ⟨k, hk, rfl, hB, hrow⟩ := hrel
    have HBr := Lib.hid hB
    have HR := Lib.hid hrow
    clear hB hrow
    obtain ⟨x0, x1, x2⟩ := (HFX.out.later HBr.out).cells
    cases gk with
    | succ gg =>
      have hlt : (k : Int) < 8 := by omega
      have hk8 : k < 8 := by omega
      have HL := Lib.hid (refLayG HMK.out (by decide) hk8 HN.out ga gc hc1 hc2 wr (HSX.out.below HBr.out))
      have heq := HEQ.out k
      obtain ⟨P, hP⟩ : ∃ P, Tu.sw k W H = P := ⟨_, rfl⟩
      obtain ⟨Q, hQ⟩ : ∃ Q, Tu.sw k H W = Q := ⟨_, rfl⟩
      obtain ⟨T, hT⟩ : ∃ T, Tu.layL k W H L = T := ⟨_, rfl⟩
      rw [hP, hQ, hT] at HL heq
      have HE := Lib.hid heq
      clear hP hQ hT heq
      go_wp2_with fail
      refine HL.out.mono ?_
      rintro e w5 ⟨gb, gd, rfl, oo, hd1, hd2, hb5⟩
      have hb := box1 w5 (.cells #[.int .i64 P, .int .i64 Q, .slice gb n gd] 25)
      have B5 := bel_step (bel_step HBr.out hb5) hb
      have HO := Lib.hid (oo.below hb)
      have HR5 := Lib.hid (ownsRow_later (ownsRow_later HR.out hb5) hb)
      have HB5 := Lib.hid B5
      have hlt5 : w1.heap.size < w5.heap.size := Nat.lt_of_lt_of_le (Nat.lt_of_lt_of_le hltx HBr.out.size) hb5.size
      clear x0 x1 x2
      obtain ⟨x0, x1, x2⟩ := ((HFX.out.later HBr.out).later hb5).cells
      have HSM := Lib.hid (refSame_any P Q W H gb ga n n gd gc T L (w5.alloc (.cells #[.int .i64 P, .int .i64 Q, .slice gb n gd] 25)) (by omega) HO.out (HSX.out.below B5))
      rw [HE.out] at HSM
      clear oo hb hb5 B5
      cases hst : Tu.stabB W H L k with
      | false =>
        rw [hst] at HSM
        have HST := Lib.hid hst
        clear hst
        go_wp2_with fail
        refine HSM.out.mono ?_
        rintro e w6 ⟨rfl, hb6⟩
        have HB6 := Lib.hid (bel_step HB5.out hb6)
        have HR6 := Lib.hid (ownsRow_later HR5.out hb6)
        clear hb6 x0 x1 x2
        go_wp2
        go_roundg gg
        case measure => omega
        case rel => exact ⟨k + 1, by omega, by go_num, HB6.out, by rw [Tu.stabL_no HST.out]; exact HR6.out⟩
      | true =>
        rw [hst] at HSM
        have HST := Lib.hid hst
        clear hst
        go_wp2_with fail
        refine HSM.out.mono ?_
        rintro e w6 ⟨rfl, hb6⟩
        have HB6 := Lib.hid (bel_step HB5.out hb6)
        have hrow6 := ownsRow_later HR5.out hb6
        have hsz6 : w3.heap.size ≤ w6.heap.size := HB6.out.size
        have hle := Tu.stabL_le W H k L
        obtain ⟨F, hF⟩ : ∃ F, Tu.stabL W H L k = F := ⟨_, rfl⟩
        rw [hF] at hrow6 hle
        have HF := Lib.hid hF
        clear hb6 x0 x1 x2 hF
        go_wp2_with (at_builtin; refine wpList_append_own _ rfl _ _ 49 rfl w3.heap.size 3 i0 (.int .i64 0) 1 8 Try.underlying49 hi hz0 hzs hz2 rfl (by decide) _ F.length _ rfl (hrow6.alloc _) ⟨w6.heap.size, 0, none⟩ 1 1 [.int .i64 k] rfl rfl (cell_one_new _ _ _) (by simp [Value.oneCell']) (by unfold maxLen; omega) (by omega) (by simp; omega) ?_; intro v' w7 hown' hgrow' hnil)
        have HB7 := Lib.hid ((HB6.out.alloc hsz6 (.cells #[.int .i64 k] 3)).grown hgrow' (by simp; omega) (fun j hj => ((hrow6.alloc (.cells #[.int .i64 k] 3)).lt j hj).1))
        have HO7 := Lib.hid hown'
        clear hown' hgrow' hnil hrow6
        go_roundg gg
        case measure => omega
        case rel => exact ⟨k + 1, by omega, by go_num, HB7.out, by rw [Tu.stabL_yes HST.out, HF.out, List.length_append, List.map_append]; exact HO7.out⟩
    | zero =>
      have hk8 : k = 8 := by omega
      have hlt : ¬ (k : Int) < 8 := by omega
      have hr := HR.out
      rw [hk8] at hr
      obtain ⟨ta, tc, rfl, hown, htcap⟩ := ownK_row rfl hr
      rw [HN2.out]
      have HTS := Lib.hid (show SlK .i64 wr ta N2 (Tu.stabL W H L 8) by have := hown.sl; rwa [HN2.out] at this)
      clear hr hown
      go_wp2_with fail
      refine (of4_any _ _ _ _ _ _).mono ?_
      rintro e w8 ⟨rfl, hb8⟩
      have HB8 := Lib.hid (bel_step HBr.out hb8)
      have HT8 := Lib.hid (HTS.out.below hb8)
      clear hb8 x0 x1 x2
      have hlit : ∀ i, i < 8 → (w8.alloc (.cells #[.int .i64 0, .int .i64 1, .int .i64 2, .int .i64 3, .int .i64 4, .int .i64 5, .int .i64 6, .int .i64 7] 3)).cell? ⟨w8.heap.size, 0 + i, none⟩ = some (.int .i64 (([0, 1, 2, 3, 4, 5, 6, 7] : List Int).getD i 0)) := by
        intro i hi
        rcases Tu.turn8 hi with rfl | rfl | rfl | rfl | rfl | rfl | rfl | rfl <;> simp [go_sem]
      have hb := box1 w8 (.cells #[.int .i64 0, .int .i64 1, .int .i64 2, .int .i64 3, .int .i64 4, .int .i64 5, .int .i64 6, .int .i64 7] 3)
      have B9 := bel_step HB8.out hb
      have HO := Lib.hid (orbit_pos W H n w8.heap.size 0 ga gc 8 8 L [0, 1, 2, 3, 4, 5, 6, 7] (mk_ok HMK.out (by decide)) HN.out hc1 hc2 (by omega) (by omega) (w8.alloc (.cells #[.int .i64 0, .int .i64 1, .int .i64 2, .int .i64 3, .int .i64 4, .int .i64 5, .int .i64 6, .int .i64 7] 3)) (HSX.out.below B9) rfl hlit)
      have HB9 := Lib.hid B9
      have HT9 := Lib.hid (HT8.out.below hb)
      clear hlit hb B9
      go_wp2_with fail
      refine HO.out.mono ?_
      rintro e w10 ⟨v, es, bp, base, rfl, hkeys, hrow, -, -, -, hb10⟩
      obtain ⟨ad, cp, rfl⟩ := ownsRow_val hrow
      have hlen : es.length = (Tu.orbO W H L [0, 1, 2, 3, 4, 5, 6, 7]).1.length := by rw [← hkeys, List.length_map]
      obtain ⟨N1, hN1⟩ : ∃ N, es.length = N := ⟨_, rfl⟩
      have hw8 := HW8.out
      rw [← hlen, hN1] at hw8
      have hI : (N1 : Int) * (N2 : Int) = 8 := by rw [← Int.natCast_mul, hw8]; rfl
      rw [hN1]
      have HB10 := Lib.hid (bel_step HB9.out hb10)
      have HSI := Lib.hid (same_ints sa ta N2 N2 sc tc (Tu.stabL W H L 8) (Tu.stabL W H L 8) w10 (by have := Tu.stabL_le W H 8 L; rw [HN2.out] at this; omega) (HSS.out.below HB10.out) (HT9.out.below hb10))
      rw [decide_eq_true (rfl : Tu.stabL W H L 8 = Tu.stabL W H L 8)] at HSI
      clear hkeys hrow hlen hN1 hb10 hw8
      have hBt := HB10.out
      go_wp2_with fail
      refine HSI.out.mono ?_
      rintro e w11 ⟨rfl, hb11⟩
      replace hBt := bel_step hBt hb11
      go_wp2_with (go_at_call 47; refine (lives4_any _).mono ?_; rintro e w9 ⟨rfl, hb9⟩; replace hBt := bel_step hBt hb9)
      go_ret
      exact ⟨rfl, bel_step (w := w) HB.out hBt⟩
end Go.Proofs.Ytlihkdbbcnmbmaa

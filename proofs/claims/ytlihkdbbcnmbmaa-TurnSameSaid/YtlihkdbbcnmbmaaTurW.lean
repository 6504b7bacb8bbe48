/- When two lists of numbers are the same, by the document's own answer; which turns lay a matrix as it is, by the code; over any memory. Condition: a length fits an int. -/
import Derived.Test.YtlihkdbbcnmbmaaTurT
import Derived.Test.YtlihkdbbcnmbmaaTurV
import Derived.LoopN
namespace Go.Proofs.Ytlihkdbbcnmbmaa
open Go.RowKit
set_option linter.unusedVariables false

set_option maxHeartbeats 1000000 in
theorem same_ints (a b : Option Addr) (n m ca cb : Nat) (x y : List Int) (w : World) (hn : n ≤ 9223372036854775807) (ha : SlK .i64 w a n x) (hb : SlK .i64 w b m y) :
    Calls Try.prog 54 #[.slice a n ca, .slice b m cb] w fun e w' => e = .returned (.bool (decide (x = y))) ∧ Below w.heap.size w w' := by
  by_cases h : n = m
  · subst h
    obtain ⟨lx, ha⟩ := ha
    obtain ⟨ly, hb⟩ := hb
    have LX := Lib.hid lx; clear lx
    have LY := Lib.hid ly; clear ly
    by_cases h0 : n = 0
    · subst h0
      have X := Lib.hid (show decide (x = y) = true by rw [decide_eq_true_iff, List.eq_nil_of_length_eq_zero LX.out, List.eq_nil_of_length_eq_zero LY.out])
      clear ha hb
      go_enter Try.func54, Try.ntmps54
      go_wp2
      go_rounds 1
      go_ret
      exact ⟨ret_b X.out.symm, Below.refl _ _⟩
    · rcases ha with ha | ⟨ba, oa, rfl, ha⟩
      · omega
      rcases hb with hb | ⟨bb, ob, rfl, hb⟩
      · omega
      have HA := Lib.hid ha; clear ha
      have HB := Lib.hid hb; clear hb
      go_enter Try.func54, Try.ntmps54
      go_wp2
      go_loopw [5] (fun i wr => ∃ k q : Nat, k ≤ n ∧ i = .int .i64 k ∧ Alike x y k ∧ wr = w.drewN q) (fun i _ => n - (intOf i).toNat)
      case atStart => exact ⟨0, 0, Nat.zero_le _, rfl, (fun i hi => by omega), rfl⟩
      case round =>
        obtain ⟨k, q, hk, rfl, hal, rfl⟩ := hrel
        by_cases hlt : k < n
        · have hx := HA.out k hlt
          have hy := HB.out k hlt
          obtain ⟨u, hu⟩ : ∃ u, x.getD k 0 = u := ⟨_, rfl⟩
          obtain ⟨v, hv⟩ : ∃ v, y.getD k 0 = v := ⟨_, rfl⟩
          rw [hu] at hx; rw [hv] at hy
          have HU := Lib.hid hu; clear hu
          have HV := Lib.hid hv; clear hv
          have i0 : (0 : Int) ≤ (k : Int) := Int.natCast_nonneg _
          have i1 : (k : Int) < (n : Int) := by omega
          by_cases huv : u = v
          · subst huv
            go_wp2_with (go_quiet (fail))
            go_roundw
            case rel => exact ⟨k + 1, _, by omega, by go_num, alike_succ hal (by rw [HU.out, HV.out]), rfl⟩
            case measure => simp [intOf]; omega
          · have kk : (u != v) = true := by rw [bne_iff_ne]; exact huv
            have X := Lib.hid (show decide (x = y) = false by rw [decide_eq_false_iff_not]; intro e; apply huv; rw [← HU.out, ← HV.out, e])
            go_wp2_with (go_quiet (fail))
            go_ret
            exact ⟨ret_b X.out.symm, below_drewN (below_drewN (Below.refl _ _) _) _⟩
        · obtain rfl : k = n := by omega
          have X := Lib.hid (show decide (x = y) = true by rw [decide_eq_true_iff]; exact alike_all LX.out LY.out hal)
          go_wp2
          go_ret
          exact ⟨ret_b X.out.symm, below_drewN (Below.refl _ _) _⟩
  · have X := Lib.hid (show decide (x = y) = false by rw [decide_eq_false_iff_not]; intro e; apply h; rw [← ha.1, ← hb.1, e])
    have k : ((n : Int) != m) = true := by simp; omega
    go_enter Try.func54, Try.ntmps54
    go_wp2
    go_ret
    exact ⟨ret_b X.out.symm, Below.refl _ _⟩
namespace Tu
/-- the turns below n that lay it as it is -/
def stabL (W H : Nat) (L : List Int) (n : Nat) : List Int := ((List.range n).filter (stabB W H L)).map fun i : Nat => (i : Int)
theorem stabL_yes {W H n : Nat} {L : List Int} (h : stabB W H L n = true) : stabL W H L (n + 1) = stabL W H L n ++ [(n : Int)] := by
  unfold stabL; rw [List.range_succ, List.filter_append, List.map_append]; simp [h]
theorem stabL_no {W H n : Nat} {L : List Int} (h : stabB W H L n = false) : stabL W H L (n + 1) = stabL W H L n := by
  unfold stabL; rw [List.range_succ, List.filter_append, List.map_append]; simp [h]
theorem stabL_le (W H n : Nat) (L : List Int) : (stabL W H L n).length ≤ n := by
  unfold stabL; rw [List.length_map]
  exact Nat.le_trans (List.length_filter_le _ _) (by simp)
/-- what is asked of two matrices says it -/
theorem stab_eq {W H g : Nat} {L : List Int} (hL : L.length = W * H) : (decide (((sw g W H : Nat) : Int) = W) && (decide (((sw g H W : Nat) : Int) = H) && decide (layL g W H L = L))) = stabB W H L g := by
  unfold stabB keyG
  rw [lay0 hL, show sw 0 W H = W from rfl, show sw 0 H W = H from rfl, Bool.eq_iff_iff]
  simp [Int.ofNat_inj]
end Tu
set_option maxRecDepth 100000 in
set_option maxHeartbeats 8000000 in
theorem turnSame_any {most W H n : Nat} {L : List Int} (hmk : Mk most W H L) (hm : most ≤ 8) (hn : W * H = n) (a : Option Addr) (c : Nat) (hc : n ≤ c) (hc2 : c ≤ 9223372036854775807) (w : World) (hs : SlK .u64 w a n L) :
    Calls Try.prog 55 #[.agg #[.int .i64 W, .int .i64 H, .slice a n c]] w fun e w' => ∃ v, e = .returned v ∧ w'.ownsRow w.heap.size 3 1 v (Tu.stabL W H L 8).length ((Tu.stabL W H L 8).map (Value.int .i64)) ∧ Below w.heap.size w w' := by
  have hn64 : n ≤ 64 := hn ▸ mk_n hmk hm
  have HMK := Lib.hid hmk
  have HN := Lib.hid hn
  have hLn : L.length = W * H := hmk.2.2.2.2
  have HEQ := Lib.hid (fun g => Tu.stab_eq (g := g) hLn)
  have B := box1 w (.cells #[.int .i64 W, .int .i64 H, .slice a n c] 26)
  have HX := Lib.hid (Sb.new w 26 (.int .i64 W) (.int .i64 H) (.slice a n c))
  have HS := Lib.hid (hs.below B)
  obtain ⟨W1, hW1⟩ : ∃ W1, w.alloc (.cells #[.int .i64 W, .int .i64 H, .slice a n c] 26) = W1 := ⟨_, rfl⟩
  have hz1 : w.heap.size + 1 ≤ W1.heap.size := by rw [← hW1]; simp
  rw [hW1] at B HX HS
  have HB := Lib.hid B
  obtain ⟨i0, hi, hz0, hzs, hz2⟩ := info_parts Try.info_in
  clear hmk hn hLn hs B
  go_enter Try.func55, Try.ntmps55
  go_wp2
  clear hW1
  go_loopg [3, 7] 8 (fun gg s3 s7 wr => ∃ k : Nat, k + gg = 8 ∧ s7 = .int .i64 k ∧ Below W1.heap.size W1 wr ∧ wr.ownsRow W1.heap.size 3 1 s3 (Tu.stabL W H L k).length ((Tu.stabL W H L k).map (Value.int .i64)))
  case atStart => exact ⟨0, by omega, rfl, Below.refl _ _, World.ownsRow_nil _ _ _ _⟩
  case round =>
    obtain ⟨k, hk, rfl, hB, hrow⟩ := hrel
    have HBr := Lib.hid hB
    have HR := Lib.hid hrow
    clear hB hrow
    cases gk with
    | zero =>
      have hk8 : k = 8 := by omega
      have hlt : ¬ (k : Int) < 8 := by omega
      have hr := HR.out
      rw [hk8] at hr
      have hr2 : wr.ownsRow w.heap.size 3 1 _ (Tu.stabL W H L 8).length ((Tu.stabL W H L 8).map (Value.int .i64)) := ownsRow_base hr (by omega)
      have HR2 := Lib.hid hr2
      clear hr hr2
      go_wp2
      go_ret
      exact ⟨_, rfl, HR2.out, bel_step HB.out HBr.out⟩
    | succ gg =>
      have hlt : (k : Int) < 8 := by omega
      have hk8 : k < 8 := by omega
      obtain ⟨x0, x1, x2⟩ := (HX.out.later HBr.out).cells
      have HL := Lib.hid (layG HMK.out hm hk8 HN.out a c hc hc2 wr (HS.out.below HBr.out))
      have heq := HEQ.out k
      obtain ⟨P, hP⟩ : ∃ P, Tu.sw k W H = P := ⟨_, rfl⟩
      obtain ⟨Q, hQ⟩ : ∃ Q, Tu.sw k H W = Q := ⟨_, rfl⟩
      obtain ⟨T, hT⟩ : ∃ T, Tu.layL k W H L = T := ⟨_, rfl⟩
      have hTn : (Tu.layL k W H L).length = n := by rw [Tu.layL_len]; exact HN.out
      rw [hP, hQ, hT] at HL heq
      rw [hT] at hTn
      have HTN := Lib.hid hTn
      have HE := Lib.hid heq
      clear hP hQ hT heq hTn
      go_wp2_with fail
      refine HL.out.mono ?_
      rintro e w2 ⟨gb, rfl, oo, hb2⟩
      have hb := box1 w2 (.cells #[.int .i64 P, .int .i64 Q, .slice (some ⟨gb, 0, none⟩) n n] 26)
      have B2 := bel_step (bel_step HBr.out hb2) hb
      have HO := Lib.hid (ownG_len (OwnG.later oo hb) HTN.out)
      have HR2 := Lib.hid (ownsRow_later (ownsRow_later HR.out hb2) hb)
      have HB2 := Lib.hid B2
      have hlt2 : w.heap.size < w2.heap.size := Nat.lt_of_lt_of_le (Nat.lt_of_lt_of_le (by omega) HBr.out.size) hb2.size
      clear x0 x1 x2
      obtain ⟨x0, x1, x2⟩ := ((HX.out.later HBr.out).later hb2).cells
      have HSM := Lib.hid (same_any P Q W H (some ⟨gb, 0, none⟩) a n n n c T L (w2.alloc (.cells #[.int .i64 P, .int .i64 Q, .slice (some ⟨gb, 0, none⟩) n n] 26)) (by omega) HO.out (HS.out.below B2))
      rw [HE.out] at HSM
      clear oo hb hb2 B2
      cases hst : Tu.stabB W H L k with
      | false =>
        rw [hst] at HSM
        have HST := Lib.hid hst
        clear hst
        go_wp2_with fail
        refine HSM.out.mono ?_
        rintro e w3 ⟨rfl, hb3⟩
        have HB3 := Lib.hid (bel_step HB2.out hb3)
        have HR3 := Lib.hid (ownsRow_later HR2.out hb3)
        clear hb3 x0 x1 x2
        go_wp2
        go_roundg gg
        case measure => omega
        case rel => exact ⟨k + 1, by omega, by go_num, HB3.out, by rw [Tu.stabL_no HST.out]; exact HR3.out⟩
      | true =>
        rw [hst] at HSM
        have HST := Lib.hid hst
        clear hst
        go_wp2_with fail
        refine HSM.out.mono ?_
        rintro e w3 ⟨rfl, hb3⟩
        have HB3 := Lib.hid (bel_step HB2.out hb3)
        have hrow3 := ownsRow_later HR2.out hb3
        have hsz3 : W1.heap.size ≤ w3.heap.size := HB3.out.size
        have hle := Tu.stabL_le W H k L
        obtain ⟨F, hF⟩ : ∃ F, Tu.stabL W H L k = F := ⟨_, rfl⟩
        rw [hF] at hrow3 hle
        have HF := Lib.hid hF
        clear hb3 x0 x1 x2 hF
        go_wp2_with (at_builtin; refine wpList_append_own _ rfl _ _ 49 rfl W1.heap.size 3 i0 (.int .i64 0) 1 8 Try.underlying49 hi hz0 hzs hz2 rfl (by decide) _ F.length _ rfl (hrow3.alloc _) ⟨w3.heap.size, 0, none⟩ 1 1 [.int .i64 k] rfl rfl (cell_one_new _ _ _) (by simp [Value.oneCell']) (by unfold maxLen; omega) (by omega) (by simp; omega) ?_; intro v' w4 hown' hgrow' hnil)
        have HB4 := Lib.hid ((HB3.out.alloc hsz3 (.cells #[.int .i64 k] 3)).grown hgrow' (by simp; omega) (fun j hj => ((hrow3.alloc (.cells #[.int .i64 k] 3)).lt j hj).1))
        have HO4 := Lib.hid hown'
        clear hown' hgrow' hnil hrow3
        go_roundg gg
        case measure => omega
        case rel => exact ⟨k + 1, by omega, by go_num, HB4.out, by rw [Tu.stabL_yes HST.out, HF.out, List.length_append, List.map_append]; exact HO4.out⟩
end Go.Proofs.Ytlihkdbbcnmbmaa

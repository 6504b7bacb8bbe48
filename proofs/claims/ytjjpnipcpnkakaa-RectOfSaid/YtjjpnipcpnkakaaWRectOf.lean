/- RectOf: the matrix of rows is the document's, or refused; its rows and columns: the walk of the law. No condition. -/
import Derived.Test.YtjjpnipcpnkakaaRecY
namespace Go.Proofs.Ytjjpnipcpnkakaa
open Go.RowKit
set_option linter.unusedVariables false

set_option maxRecDepth 100000 in
set_option maxHeartbeats 8000000 in
theorem rectOf_walk (a0 : Option Addr) (len0 cap0 : Nat) (a1w0 a1h1 : Int) (a1 : Option Addr) (len1 cap1 : Nat) (z1 : List Int) (w : World) (w0 : IsRows w a0 len0 cap0) (w10 : (Lit.int .i64 a1w0).wf = true) (w11 : (Lit.int .i64 a1h1).wf = true) (w12 : IsRow .u64 w a1 len1 cap1 z1) :
    Calls Try.prog 3 #[.slice a0 len0 cap0, .agg #[.int .i64 a1w0, .int .i64 a1h1, .slice a1 len1 cap1]] w fun e w' => e = .returned (.bool true) ∧ Below w.heap.size w w' := by
  obtain ⟨l1, l2, l3, l4⟩ := isrow_len w12
  have hl0 := isrows_len w0
  obtain ⟨A, N, C, Z, hat⟩ := isrows_at w0
  have HAT := Lib.hid hat
  have HG := Lib.hid (fun W2 h => good_any a1w0 a1h1 5 a1 len1 cap1 (z1.take len1) (i64_of w10) (i64_of w11) (by omega) (by omega) l1 W2 h (of_take w12 len1))
  have HSL := Lib.hid (of_slk w12)
  have HOK := Lib.hid (good_ok a1w0 a1h1 5 (z1.take len1) (by omega) (by omega))
  obtain ⟨gw1, gw2⟩ := goodW_in a1w0 5 (by omega)
  obtain ⟨gh1, gh2⟩ := goodW_in a1h1 5 (by omega)
  generalize goodW a1w0 5 = GW at HG HOK gw1 gw2
  generalize goodW a1h1 5 = GH at HG HOK gh1 gh2
  generalize goodM a1w0 a1h1 5 (z1.take len1) = G at HG HOK
  obtain ⟨n, hn⟩ : ∃ n, G.length = n := ⟨_, rfl⟩
  have hn2 : n ≤ 16777216 := by rw [← hn]; exact ok_len HOK.out
  rw [hn] at HG
  have HN := Lib.hid hn
  obtain ⟨q, hq⟩ : ∃ q, min len0 5 = q := ⟨_, rfl⟩
  have hq1 : q ≤ 5 := by omega
  have hq2 : q ≤ len0 := by omega
  have HQ := Lib.hid hq
  have HSB := Lib.hid (Sb.new w 25 (.int .i64 a1w0) (.int .i64 a1h1) (.slice a1 len1 cap1))
  have HB := Lib.hid (box1 w (.cells #[.int .i64 a1w0, .int .i64 a1h1, .slice a1 len1 cap1] 25))
  clear w0 w10 w11 w12 hat hn hq
  go_enter Try.func3, Try.ntmps3
  go_upto_block 0 with fail
  obtain ⟨W0, hW0⟩ : ∃ W0, w.alloc (.cells #[.int .i64 a1w0, .int .i64 a1h1, .slice a1 len1 cap1] 25) = W0 := ⟨_, rfl⟩
  have hSB := HSB.out; have hBB := HB.out
  rw [hW0] at hSB hBB ⊢
  have HSB0 := Lib.hid hSB; have HB0 := Lib.hid hBB
  clear hSB hBB hW0 HSB HB
  have HBR := Lib.hid (Below.refl W0.heap.size W0)
  obtain ⟨V, hV⟩ : ∃ V : Nat → Value, (fun r => cutC (A r) (N r) (C r)) = V := ⟨_, rfl⟩
  have HV := Lib.hid hV
  have HATQ := Lib.hid (rowsAt_less HAT.out hq2)
  clear hV
  obtain ⟨i0, hi, hz0, hz1, hz2⟩ := info_parts Try.info_row
  go_cut [5, 6] from 17 to 40 (fun s5 s6 wx => ∃ ad cap i, s5 = .slice ad q cap ∧ s6 = .int .i64 i ∧ RowsK wx ad q (rawR N Z q) ∧ Below W0.heap.size W0 wx)
  case first =>
    go_wp2_with fail
    go_loopg [5, 6] q (fun g s5 s6 wr => ∃ (k : Nat) (v : Value), k + g = q ∧ v = s5 ∧ s6 = .int .i64 k ∧ wr.ownsRow W0.heap.size 23 1 v k ((List.range k).map V) ∧ Below W0.heap.size W0 wr)
    case atStart => exact ⟨0, _, by omega, rfl, rfl, World.ownsRow_nil _ _ _ _, HBR.out⟩
    case round =>
      obtain ⟨k, v, hk, hv5, rfl, hrow, hB⟩ := hrel
      subst hv5
      have k0 : (0 : Int) ≤ k := Int.natCast_nonneg _
      have hW := hB.size
      cases gk with
      | zero =>
        obtain rfl : k = q := by omega
        obtain ⟨ad, cap, rfl⟩ := ofRow_val hrow
        have hRK := raw_rows HATQ.out (bel_step HB0.out hB) (by rw [HV.out]; exact hrow)
        have HRK := Lib.hid hRK
        clear hRK hrow
        by_cases hx : len0 ≤ k
        · have hx1 : ¬ (k : Int) < len0 := by omega
          go_wp2_with fail
          go_meet
          case rel => exact ⟨_, _, _, rfl, rfl, HRK.out, hB⟩
        · have hx1 : (k : Int) < len0 := by omega
          have hx2 : ¬ (k : Int) < 5 := by have := HQ.out; omega
          go_wp2_with fail
          go_meet
          case rel => exact ⟨_, _, _, rfl, rfl, HRK.out, hB⟩
      | succ g =>
        obtain ⟨⟨b, off, rfl, hck⟩, hrk⟩ := HATQ.out k (by omega)
        have hvk : (List.range k).map V ++ [.slice (A k) (min (N k) 6) (C k)] = (List.range (k + 1)).map V := by
          rw [List.range_succ, List.map_append, ← HV.out]; rfl
        obtain ⟨j1, j2, j3, j4⟩ := isrow_len hrk
        have hck1 := cell_later (bel_step HB0.out hB) hck
        have hx1 : (k : Int) < len0 := by omega
        have hx2 : (k : Int) < 5 := by omega
        obtain ⟨m, hm⟩ : ∃ m, min (N k) 6 = m := ⟨_, rfl⟩
        rw [hm] at hvk
        generalize N k = nk at hm hck1 j1 j2 j3
        generalize C k = ck at hck1 hvk j3 j4
        generalize A k = ak at hck1 hvk
        have HVK := Lib.hid hvk
        have m1 : (if 6 < (nk : Int) then (6 : Int) else nk) = (m : Int) := by split <;> omega
        have m2 : m ≤ ck := by omega
        have m3 : m ≤ 6 := by omega
        have HROW := Lib.hid hrow
        clear hvk hrk hck hm hrow
        go_wp2_with fail
        go_region_law (first
          | (refine step_append_lies _ rfl _ _ 22 rfl W0.heap.size 23 i0 (.slice none 0 0) 1 24 Try.underlying22 hi hz0 hz1 hz2 rfl (by decide) v k _ rfl (HROW.out.alloc _) ⟨wr.heap.size, 0, none⟩ 1 1 [.slice ak m ck] rfl rfl (cell_one_new _ _ _) (by simp [Value.oneCell']) (by omega) (by unfold maxLen; omega) (by omega) (by simp; omega) _ rfl ?_; intro gg cc w5 hown' hgrow' _ _; have HO := Lib.hid hown'; have hB6 := Lib.hid ((((hB.drew).alloc (by simpa using hW) _).grown hgrow' (by simp; omega) (fun j ej => (HROW.out.lt j ej).1))); clear hown' hgrow'))
        all_goals
          go_wp2_with fail
          go_roundg g
          case measure => omega
          case rel => exact ⟨k + 1, _, by omega, rfl, by go_num, by rw [← HVK.out]; exact HO.out, hB6.out⟩
  case rest =>
    obtain ⟨ad, cap, ix, rfl, rfl, hRK, hB⟩ := hcut
    obtain ⟨e1, e2, L, e4, hE⟩ : ∃ e1 e2 L e4, ofV (rawR N Z q) = (e1, e2, L, e4) := ⟨_, _, _, _, rfl⟩
    obtain ⟨n3, hn3⟩ : ∃ n3, L.length = n3 := ⟨_, rfl⟩
    have hX := Lib.hid (fun W2 (h : Below wc.heap.size wc W2) => (rectOf_any ad q cap (rawR N Z q) W2 (by omega) (fun i hi => Nat.le_trans (rawR_short N Z q i hi) (by omega)) (hRK.later h)).mono (fun _ _ h => ofR_mat hE hn3 h))
    have hY := Lib.hid (fun W2 (h : Below wc.heap.size wc W2) => (refOf_any ad q cap (rawR N Z q) W2 (by omega) (fun i hi => Nat.le_trans (rawR_short N Z q i hi) (by omega)) (hRK.later h)).mono (fun _ _ h => ofR_mat hE hn3 h))
    have HBC := Lib.hid (bel_step HB0.out hB)
    have HM0 := Lib.hid (HSB0.out.later hB)
    clear hE hn3 hRK hB HATQ HV HQ HAT HB0 HSB0 HBR hi hz0 hz1 hz2 hq1 hq2
    go_wp2_with fail
    refine (hX.out _ (Below.refl _ _)).mono ?_
    rintro e w1 ⟨xa, xc, rfl, xs, xl, x9, xb⟩
    have XB1 := Lib.hid (bel_step xb (box1 w1 (.cells #[.int .i64 e1, .int .i64 e2, .slice xa n3 xc] 26)))
    have XS1 := Lib.hid (xs.below (box1 w1 (.cells #[.int .i64 e1, .int .i64 e2, .slice xa n3 xc] 26)))
    have XD1 := Lib.hid (Sb.new w1 26 (.int .i64 e1) (.int .i64 e2) (.slice xa n3 xc))
    have XM1 := Lib.hid (HM0.out.later XB1.out)
    clear xs xb
    go_wp2_with fail
    refine (hY.out _ XB1.out).mono ?_
    rintro e w2 ⟨ya, yc, rfl, ys, yl, y9, yb⟩
    have YB0 := Lib.hid (bel_step yb (box1 w2 (.cells #[.int .i64 e1, .int .i64 e2, .slice ya n3 yc] 25)))
    have YB1 := Lib.hid (bel_step XB1.out YB0.out)
    have YS1 := Lib.hid (ys.below (box1 w2 (.cells #[.int .i64 e1, .int .i64 e2, .slice ya n3 yc] 25)))
    have YX1 := Lib.hid (XS1.out.below YB0.out)
    have YD1 := Lib.hid (XD1.out.later YB0.out)
    have YE1 := Lib.hid (Sb.new w2 25 (.int .i64 e1) (.int .i64 e2) (.slice ya n3 yc))
    have YM1 := Lib.hid (XM1.out.later YB0.out)
    obtain ⟨d0, d1, d2⟩ := YM1.out.cells
    clear ys yb
    go_wp2_with fail
    refine (HG.out _ (HSL.out.below (bel_step HBC.out YB1.out))).mono ?_
    rintro e w3 ⟨ga, gc, rfl, ho, hc1, hc2, hb⟩
    have GB0 := Lib.hid (bel_step hb (box1 w3 (.cells #[.int .i64 GW, .int .i64 GH, .slice ga n gc] 25)))
    have GV := Lib.hid (bel_step (bel_step HBC.out YB1.out) GB0.out)
    have GX1 := Lib.hid (YX1.out.below GB0.out)
    have GY1 := Lib.hid (YS1.out.below GB0.out)
    have GD1 := Lib.hid (YD1.out.later GB0.out)
    have GE1 := Lib.hid (YE1.out.later GB0.out)
    have GF1 := Lib.hid (Sb.new w3 25 (.int .i64 GW) (.int .i64 GH) (.slice ga n gc))
    have GS1 := Lib.hid (show SlK .u64 (w3.alloc (.cells #[.int .i64 GW, .int .i64 GH, .slice ga n gc] 25)) ga n G by have := (ho.later (box1 w3 (.cells #[.int .i64 GW, .int .i64 GH, .slice ga n gc] 25))).sl; rwa [HN.out] at this)
    clear ho hb d0 d1 d2 hX hY HG HSL XB1 XS1 XD1 XM1 YB0 YB1 YS1 YX1 YD1 YE1 YM1 HM0 HBC
    go_upto_block 2 with fail
    obtain ⟨W3, hW3⟩ : ∃ W3, w3.alloc (.cells #[.int .i64 GW, .int .i64 GH, .slice ga n gc] 25) = W3 := ⟨_, rfl⟩
    rw [hW3] at GB0 GV GX1 GY1 GD1 GE1 GF1 GS1 ⊢
    clear hW3 GB0
    obtain ⟨i0, hi, hz0, hz1, hz2⟩ := info_parts Try.info_row
    have HC1 := Lib.hid hc1; have HC2 := Lib.hid hc2
    have hgn : GH.toNat ≤ 5 := by omega
    clear hc1 hc2
    go_cut [12, 13] from 53 to 64 (fun s12 s13 wx => ∃ rd rc i, s12 = .slice rd GH.toNat rc ∧ s13 = .int .i64 i ∧ RowsK wx rd GH.toNat (gRows GW GH G) ∧ Below W3.heap.size W3 wx)
    case first =>
      have HBR := Lib.hid (Below.refl W3.heap.size W3)
      go_wp2_with fail
      go_loopg [12, 13] GH.toNat (fun g s12 s13 wr => ∃ (k : Nat) (v : Value) (ps : List (Nat × Nat)), k + g = GH.toNat ∧ v = s12 ∧ s13 = .int .i64 k ∧ ps.length = k ∧ wr.ownsRow W3.heap.size 23 1 v k (ps.map fun y => .slice (some ⟨y.1, 0, none⟩) GW.toNat y.2) ∧ Hid (∀ i, i < k → RowI wr v (ps.getD i (0, 0)).1 GW.toNat (gRow GW G i)) ∧ Below W3.heap.size W3 wr)
      case atStart => exact ⟨0, _, [], by omega, rfl, rfl, rfl, World.ownsRow_nil _ _ _ _, Lib.hid (fun i hi => by omega), HBR.out⟩
      case round =>
        obtain ⟨k, v, ps, hk, hv5, rfl, hal, hrow, hall, hB⟩ := hrel
        subst hv5
        have k0 : (0 : Int) ≤ k := Int.natCast_nonneg _
        have hW := hB.size
        obtain ⟨d0, d1, d2⟩ := (GF1.out.later hB).cells
        cases gk with
        | zero =>
          obtain rfl : k = GH.toNat := by omega
          obtain ⟨rd, rc, rfl⟩ := ofRow_val hrow
          have HRK := Lib.hid (rows_own (R := gRows GW GH G) (gRows_len GW GH G) hrow (by simp [hal]) (fun i hi => ⟨some ⟨(ps.getD i (0, 0)).1, 0, none⟩, (ps.getD i (0, 0)).2, by
            rw [gRows_at hi, gRow_len]
            have h9 : i < ps.length := by omega
            simp [List.getD_eq_getElem?_getD, List.getElem?_eq_getElem h9], by rw [gRows_at hi, gRow_len]; exact (hall.out i hi).1⟩))
          have hx1 : ¬ ((GH.toNat : Nat) : Int) < GH := by omega
          clear hrow hall hal
          go_wp2_with fail
          go_meet
          case rel => exact ⟨_, _, _, rfl, rfl, HRK.out, hB⟩
        | succ g =>
          have hx1 : (k : Int) < GH := by omega
          have hR := Lib.hid (refRow_any GW GH k ga gc G HOK.out (by rw [HN.out]; exact HC1.out) HC2.out wr (by rw [HN.out]; exact GS1.out.below hB))
          rw [HN.out] at hR
          have hln : lineK (Rc.insV (k : Int) 1 GH) (fun i : Nat => G.getD ((k : Int).toNat * GW.toNat + i) 0) GW.toNat = gRow GW G k := by
            rw [show Rc.insV (k : Int) 1 GH = true from Rc.insV_iff.2 ⟨by omega, by omega, by omega, by omega⟩, Int.toNat_natCast]; rfl
          rw [hln] at hR
          have HROW := Lib.hid hrow
          have HAL := Lib.hid hal
          clear hln hrow hal
          go_wp2_with fail
          refine hR.out.mono ?_
          intro e w5 h5
          obtain ⟨ra, rc, rfl, rs, rg, rlt, r9, rb⟩ := line_row h5 (gRow_len GW G k) (by omega)
          have hB5 := bel_step hB rb
          have hW5 := hB5.size
          have HR5 := Lib.hid (ownsRow_later HROW.out rb)
          have HA5 := Lib.hid (fun i hi => ((hall.out i hi).later rb).later (box1 w5 (.cells #[.slice (some ⟨ra, 0, none⟩) GW.toNat rc] 23)))
          have HN5 := Lib.hid (show RowI (w5.alloc (.cells #[.slice (some ⟨ra, 0, none⟩) GW.toNat rc] 23)) v ra GW.toNat (gRow GW G k) from RowI.later ⟨rs, rlt, fun e => by have := (HROW.out.lt _ e).2; omega⟩ (box1 w5 _))
          clear h5 rb rs
          go_wp2_with (at_builtin; refine wpList_append_lies _ rfl _ _ 22 rfl W3.heap.size 23 i0 (.slice none 0 0) 1 24 Try.underlying22 hi hz0 hz1 hz2 rfl (by decide) v k _ rfl (HR5.out.alloc _) ⟨w5.heap.size, 0, none⟩ 1 1 [.slice (some ⟨ra, 0, none⟩) GW.toNat rc] rfl rfl (cell_one_new _ _ _) (by simp [Value.oneCell']) (by omega) (by unfold maxLen; omega) (by omega) (by simp; omega) _ rfl ?_; intro gg cc w6 hown' hgrow hat _; have HO := Lib.hid hown'; have HB6 := Lib.hid ((hB5.alloc hW5 _).grown hgrow (by simp; omega) (fun j ej => (HR5.out.lt j ej).1)); have HG6 := Lib.hid (rows_up (f := gRow GW G) (v' := .slice (some ⟨gg, 0, none⟩) (k + 1) cc) (cn := rc) HAL.out HA5.out HN5.out hgrow rfl hat); clear hown' hgrow hat)
          go_roundg g
          case measure => omega
          case rel => exact ⟨k + 1, _, ps ++ [(ra, rc)], by omega, rfl, by go_num, by rw [List.length_append, HAL.out]; rfl, by rw [List.map_append]; exact HO.out, HG6, HB6.out⟩
    case rest =>
      obtain ⟨rd, rc, iy, rfl, rfl, hRK, hB⟩ := hcut
      have hZ := Lib.hid ((rectOf_any rd GH.toNat rc (gRows GW GH G) _ (by omega) (fun i hi => by rw [gRows_at hi, gRow_len]; omega) hRK).mono (fun _ _ h => ofR_mat (good_rows HOK.out) HN.out h))
      have ZV := Lib.hid (bel_step GV.out hB)
      have ZB := Lib.hid hB
      clear hRK hB hi hz0 hz1 hz2
      go_wp2_with fail
      refine hZ.out.mono ?_
      rintro e w5 ⟨ca, cc, rfl, cs, cl, c9, cb⟩
      have KB0 := bel_step ZB.out (bel_step cb (box1 w5 (.cells #[.int .i64 GW, .int .i64 GH, .slice ca n cc] 26)))
      have KV := Lib.hid (bel_step GV.out KB0)
      have KX := Lib.hid (GX1.out.below KB0)
      have KY := Lib.hid (GY1.out.below KB0)
      have KG := Lib.hid (GS1.out.below KB0)
      have KD := Lib.hid (GD1.out.later KB0)
      have KE := Lib.hid (GE1.out.later KB0)
      have KF := Lib.hid (GF1.out.later KB0)
      have KC := Lib.hid (Sb.new w5 26 (.int .i64 GW) (.int .i64 GH) (.slice ca n cc))
      have KS := Lib.hid (cs.below (box1 w5 (.cells #[.int .i64 GW, .int .i64 GH, .slice ca n cc] 26)))
      have KL := Lib.hid cl; have K9 := Lib.hid c9
      clear KB0 cs cl c9 cb hZ ZB ZV GV GX1 GY1 GS1 GD1 GE1 GF1
      go_upto_region 15 with fail
      obtain ⟨W5, hW5⟩ : ∃ W5, w5.alloc (.cells #[.int .i64 GW, .int .i64 GH, .slice ca n cc] 26) = W5 := ⟨_, rfl⟩
      rw [hW5] at KV KX KY KG KD KE KF KC KS ⊢
      clear hW5
      have hn3 : n3 ≤ 9223372036854775807 := Nat.le_trans xl x9
      have S1 := Lib.hid (fun W2 (h : Below W5.heap.size W5 W2) => refSame_any e1 e2 e1 e2 xa ya n3 n3 xc yc L L W2 hn3 (KX.out.below h) (KY.out.below h))
      have S2 := Lib.hid (fun W2 (h : Below W5.heap.size W5 W2) => refSame_any GW GH GW GH ca ga n n cc gc G G W2 (by omega) (KS.out.below h) (KG.out.below h))
      rw [show (decide (e1 = e1) && (decide (e2 = e2) && decide (L = L))) = true by simp] at S1
      rw [show (decide (GW = GW) && (decide (GH = GH) && decide (G = G))) = true by simp] at S2
      have hne : (e4 != e4) = false := by simp
      go_cut [90] (fun s90 wx => s90 = .bool false ∧ Below W5.heap.size W5 wx)
      case first =>
        obtain ⟨p0, p1, p2⟩ := KD.out.cells
        obtain ⟨q0, q1, q2⟩ := KE.out.cells
        obtain ⟨r0, r1, r2⟩ := KF.out.cells
        obtain ⟨s0, s1, s2⟩ := KC.out.cells
        have hBt := Below.refl W5.heap.size W5
        go_region_held3 (fun w' => w'.cell? ⟨w1.heap.size, 0, none⟩ = some (.int .i64 e1) ∧ w'.cell? ⟨w1.heap.size, 1, none⟩ = some (.int .i64 e2) ∧ w'.cell? ⟨w1.heap.size, 2, none⟩ = some (.slice xa n3 xc) ∧ w'.cell? ⟨w2.heap.size, 0, none⟩ = some (.int .i64 e1) ∧ w'.cell? ⟨w2.heap.size, 1, none⟩ = some (.int .i64 e2) ∧ w'.cell? ⟨w2.heap.size, 2, none⟩ = some (.slice ya n3 yc) ∧ w'.cell? ⟨w3.heap.size, 0, none⟩ = some (.int .i64 GW) ∧ w'.cell? ⟨w3.heap.size, 1, none⟩ = some (.int .i64 GH) ∧ w'.cell? ⟨w3.heap.size, 2, none⟩ = some (.slice ga n gc) ∧ w'.cell? ⟨w5.heap.size, 0, none⟩ = some (.int .i64 GW) ∧ w'.cell? ⟨w5.heap.size, 1, none⟩ = some (.int .i64 GH) ∧ w'.cell? ⟨w5.heap.size, 2, none⟩ = some (.slice ca n cc))
          (first | exact ⟨p0, p1, p2, q0, q1, q2, r0, r1, r2, s0, s1, s2⟩ | exact ⟨cell_later (by repeat' (first | (with_reducible exact hBt) | (with_reducible refine Below.alloc ?_ ?_ _) | (with_reducible refine Below.drew ?_) | (with_reducible refine below_drewN ?_ _) | (with_reducible refine Below.setCell ?_ ?_ _) | exact hBt.size | (have := hBt.size; first | omega | (simp; done) | (simp; omega)))) p0, cell_later (by repeat' (first | (with_reducible exact hBt) | (with_reducible refine Below.alloc ?_ ?_ _) | (with_reducible refine Below.drew ?_) | (with_reducible refine below_drewN ?_ _) | (with_reducible refine Below.setCell ?_ ?_ _) | exact hBt.size | (have := hBt.size; first | omega | (simp; done) | (simp; omega)))) p1, cell_later (by repeat' (first | (with_reducible exact hBt) | (with_reducible refine Below.alloc ?_ ?_ _) | (with_reducible refine Below.drew ?_) | (with_reducible refine below_drewN ?_ _) | (with_reducible refine Below.setCell ?_ ?_ _) | exact hBt.size | (have := hBt.size; first | omega | (simp; done) | (simp; omega)))) p2, cell_later (by repeat' (first | (with_reducible exact hBt) | (with_reducible refine Below.alloc ?_ ?_ _) | (with_reducible refine Below.drew ?_) | (with_reducible refine below_drewN ?_ _) | (with_reducible refine Below.setCell ?_ ?_ _) | exact hBt.size | (have := hBt.size; first | omega | (simp; done) | (simp; omega)))) q0, cell_later (by repeat' (first | (with_reducible exact hBt) | (with_reducible refine Below.alloc ?_ ?_ _) | (with_reducible refine Below.drew ?_) | (with_reducible refine below_drewN ?_ _) | (with_reducible refine Below.setCell ?_ ?_ _) | exact hBt.size | (have := hBt.size; first | omega | (simp; done) | (simp; omega)))) q1, cell_later (by repeat' (first | (with_reducible exact hBt) | (with_reducible refine Below.alloc ?_ ?_ _) | (with_reducible refine Below.drew ?_) | (with_reducible refine below_drewN ?_ _) | (with_reducible refine Below.setCell ?_ ?_ _) | exact hBt.size | (have := hBt.size; first | omega | (simp; done) | (simp; omega)))) q2, cell_later (by repeat' (first | (with_reducible exact hBt) | (with_reducible refine Below.alloc ?_ ?_ _) | (with_reducible refine Below.drew ?_) | (with_reducible refine below_drewN ?_ _) | (with_reducible refine Below.setCell ?_ ?_ _) | exact hBt.size | (have := hBt.size; first | omega | (simp; done) | (simp; omega)))) r0, cell_later (by repeat' (first | (with_reducible exact hBt) | (with_reducible refine Below.alloc ?_ ?_ _) | (with_reducible refine Below.drew ?_) | (with_reducible refine below_drewN ?_ _) | (with_reducible refine Below.setCell ?_ ?_ _) | exact hBt.size | (have := hBt.size; first | omega | (simp; done) | (simp; omega)))) r1, cell_later (by repeat' (first | (with_reducible exact hBt) | (with_reducible refine Below.alloc ?_ ?_ _) | (with_reducible refine Below.drew ?_) | (with_reducible refine below_drewN ?_ _) | (with_reducible refine Below.setCell ?_ ?_ _) | exact hBt.size | (have := hBt.size; first | omega | (simp; done) | (simp; omega)))) r2, cell_later (by repeat' (first | (with_reducible exact hBt) | (with_reducible refine Below.alloc ?_ ?_ _) | (with_reducible refine Below.drew ?_) | (with_reducible refine below_drewN ?_ _) | (with_reducible refine Below.setCell ?_ ?_ _) | exact hBt.size | (have := hBt.size; first | omega | (simp; done) | (simp; omega)))) s0, cell_later (by repeat' (first | (with_reducible exact hBt) | (with_reducible refine Below.alloc ?_ ?_ _) | (with_reducible refine Below.drew ?_) | (with_reducible refine below_drewN ?_ _) | (with_reducible refine Below.setCell ?_ ?_ _) | exact hBt.size | (have := hBt.size; first | omega | (simp; done) | (simp; omega)))) s1, cell_later (by repeat' (first | (with_reducible exact hBt) | (with_reducible refine Below.alloc ?_ ?_ _) | (with_reducible refine Below.drew ?_) | (with_reducible refine below_drewN ?_ _) | (with_reducible refine Below.setCell ?_ ?_ _) | exact hBt.size | (have := hBt.size; first | omega | (simp; done) | (simp; omega)))) s2⟩)
          (first
            | (go_at_call 18; refine (as_any _ _ _ _ _ _).mono ?_; rintro e w9 ⟨rfl, hb9⟩; replace hBt := bel_step (w := W5) (by repeat' (first | (with_reducible exact hBt) | (with_reducible refine Below.alloc ?_ ?_ _) | (with_reducible refine Below.drew ?_) | (with_reducible refine below_drewN ?_ _) | (with_reducible refine Below.setCell ?_ ?_ _) | exact hBt.size | (have := hBt.size; first | omega | (simp; done) | (simp; omega)))) hb9; have hsz9 := hBt.size)
            | (go_at_call 17; (first | (with_reducible show Calls _ _ #[Value.agg #[Value.int .i64 e1, _, _], _] _ _; refine (S1.out _ (by repeat' (first | (with_reducible exact hBt) | (with_reducible refine Below.alloc ?_ ?_ _) | (with_reducible refine Below.drew ?_) | (with_reducible refine below_drewN ?_ _) | (with_reducible refine Below.setCell ?_ ?_ _) | exact hBt.size | (have := hBt.size; first | omega | (simp; done) | (simp; omega))))).mono ?_) | (refine (S2.out _ (by repeat' (first | (with_reducible exact hBt) | (with_reducible refine Below.alloc ?_ ?_ _) | (with_reducible refine Below.drew ?_) | (with_reducible refine below_drewN ?_ _) | (with_reducible refine Below.setCell ?_ ?_ _) | exact hBt.size | (have := hBt.size; first | omega | (simp; done) | (simp; omega))))).mono ?_)); rintro e w9 ⟨rfl, hb9⟩; replace hBt := bel_step (w := W5) (by repeat' (first | (with_reducible exact hBt) | (with_reducible refine Below.alloc ?_ ?_ _) | (with_reducible refine Below.drew ?_) | (with_reducible refine below_drewN ?_ _) | (with_reducible refine Below.setCell ?_ ?_ _) | exact hBt.size | (have := hBt.size; first | omega | (simp; done) | (simp; omega)))) hb9; have hsz9 := hBt.size))
        all_goals
          go_wp2_with fail
          go_meet
          case rel =>
            exact ⟨rfl, (by repeat' (first | (with_reducible exact hBt) | (with_reducible refine Below.alloc ?_ ?_ _) | (with_reducible refine Below.drew ?_) | (with_reducible refine below_drewN ?_ _) | (with_reducible refine Below.setCell ?_ ?_ _) | exact hBt.size | (have := hBt.size; first | omega | (simp; done) | (simp; omega))))⟩
      case rest =>
        obtain ⟨rfl, hB6⟩ := hcut
        have LV := Lib.hid (bel_step KV.out hB6)
        have LF := Lib.hid (KF.out.later hB6)
        have LC := Lib.hid (KC.out.later hB6)
        have LG := Lib.hid (KG.out.below hB6)
        have LS := Lib.hid (KS.out.below hB6)
        have HOK2 := HOK
        clear hB6 KV KX KY KG KD KE KF KC KS S1 S2 hne
        have hBr := Lib.hid (Below.refl wc.heap.size wc)
        go_upto_block 4 with fail
        go_wp2_with fail
        go_loopg [16] 7 (fun g s16 wr => ∃ (k : Nat) (y : Int), k + g = 7 ∧ s16 = .int .i64 y ∧ y = (k : Int) - 1 ∧ Below wc.heap.size wc wr)
        case atStart => exact ⟨0, -1, rfl, rfl, rfl, hBr.out⟩
        case round =>
          obtain ⟨k, y, hk, rfl, hy, hB⟩ := hrel
          obtain ⟨s0, s1, s2⟩ := (LC.out.later hB).cells
          obtain ⟨r0, r1, r2⟩ := (LF.out.later hB).cells
          cases gk with
          | zero =>
            have hy5 : ¬ y ≤ 5 := by omega
            have hM := Lib.hid (fun W2 => may_any GW GH ca n cc (by omega) W2)
            rw [show Rc.mayV GW GH n = true by rw [← HN.out]; exact Rc.ok_may HOK.out] at hM
            clear hk hy
            go_wp2_with fail
            refine (hM.out _).mono ?_
            rintro e w7 ⟨rfl, hb7⟩
            go_wp2_with fail
            refine (lives_any _).mono ?_
            rintro e w8 ⟨rfl, hb8⟩
            go_wp2_with fail
            go_ret
            exact ⟨rfl, bel_step LV.out (bel_step (bel_step hB hb7) hb8)⟩
          | succ g =>
            have hy5 : y ≤ 5 := by omega
            have hy6 : -1 ≤ y := by omega
            have HY := Lib.hid hy
            clear hy
            have hLG := Lib.hid (LG.out.below hB)
            have hLS := Lib.hid (LS.out.below hB)
            obtain ⟨R1, hR1⟩ : ∃ R, lineK (Rc.insV y 1 GH) (fun i : Nat => G.getD (y.toNat * GW.toNat + i) 0) GW.toNat = R := ⟨_, rfl⟩
            obtain ⟨R2, hR2⟩ : ∃ R, lineK (Rc.insV y 1 GW) (fun j : Nat => G.getD (j * GW.toNat + y.toNat) 0) GH.toNat = R := ⟨_, rfl⟩
            obtain ⟨m1, hm1⟩ : ∃ m, R1.length = m := ⟨_, rfl⟩
            obtain ⟨m2, hm2⟩ : ∃ m, R2.length = m := ⟨_, rfl⟩
            have hm1b : m1 ≤ 5 := by rw [← hm1, ← hR1]; exact Nat.le_trans (lineK_len _ _ _) (by omega)
            have hm2b : m2 ≤ 5 := by rw [← hm2, ← hR2]; exact Nat.le_trans (lineK_len _ _ _) (by omega)
            have C1 := Lib.hid (fun W2 (h : Below wr.heap.size wr W2) => (row_of GW GH y ca cc G HOK.out (by rw [HN.out]; exact KL.out) K9.out W2 (by rw [HN.out]; exact hLS.out.below h)).mono (fun _ _ h => line_a (by rw [row_line HOK.out]; exact hR1) hm1 h))
            have C2 := Lib.hid (fun W2 (h : Below wr.heap.size wr W2) => (refRow_any GW GH y ga gc G HOK.out (by rw [HN.out]; exact HC1.out) HC2.out W2 (by rw [HN.out]; exact hLG.out.below h)).mono (fun _ _ h => line_b hR1 hm1 h))
            have C3 := Lib.hid (fun W2 (h : Below wr.heap.size wr W2) => (col_of GW GH y ca cc G HOK.out (by rw [HN.out]; exact KL.out) K9.out W2 (by rw [HN.out]; exact hLS.out.below h)).mono (fun _ _ h => line_a (by rw [col_line HOK.out]; exact hR2) hm2 h))
            have C4 := Lib.hid (fun W2 (h : Below wr.heap.size wr W2) => (refCol_any GW GH y ga gc G HOK.out (by rw [HN.out]; exact HC1.out) HC2.out W2 (by rw [HN.out]; exact hLG.out.below h)).mono (fun _ _ h => line_b hR2 hm2 h))
            rw [HN.out] at C1 C2 C3 C4
            have T1 := Lib.hid (fun a b c d W2 h1 h2 => sameRow_self a b m1 c d R1 W2 (by omega) h1 h2)
            have T2 := Lib.hid (fun a b c d W2 h1 h2 => sameRow_self a b m2 c d R2 W2 (by omega) h1 h2)
            clear hR1 hR2 hm1 hm2
            go_wp2_with fail
            have hBt := Below.refl wr.heap.size wr
            go_region_held3 (fun w' => w'.cell? ⟨w3.heap.size, 0, none⟩ = some (.int .i64 GW) ∧ w'.cell? ⟨w3.heap.size, 1, none⟩ = some (.int .i64 GH) ∧ w'.cell? ⟨w3.heap.size, 2, none⟩ = some (.slice ga n gc) ∧ w'.cell? ⟨w5.heap.size, 0, none⟩ = some (.int .i64 GW) ∧ w'.cell? ⟨w5.heap.size, 1, none⟩ = some (.int .i64 GH) ∧ w'.cell? ⟨w5.heap.size, 2, none⟩ = some (.slice ca n cc))
              (first | exact ⟨r0, r1, r2, s0, s1, s2⟩ | exact ⟨cell_later (by repeat' (first | (with_reducible exact hBt) | (with_reducible refine Below.alloc ?_ ?_ _) | (with_reducible refine Below.drew ?_) | (with_reducible refine below_drewN ?_ _) | (with_reducible refine Below.setCell ?_ ?_ _) | exact hBt.size | (have := hBt.size; first | omega | (simp; done) | (simp; omega)))) r0, cell_later (by repeat' (first | (with_reducible exact hBt) | (with_reducible refine Below.alloc ?_ ?_ _) | (with_reducible refine Below.drew ?_) | (with_reducible refine below_drewN ?_ _) | (with_reducible refine Below.setCell ?_ ?_ _) | exact hBt.size | (have := hBt.size; first | omega | (simp; done) | (simp; omega)))) r1, cell_later (by repeat' (first | (with_reducible exact hBt) | (with_reducible refine Below.alloc ?_ ?_ _) | (with_reducible refine Below.drew ?_) | (with_reducible refine below_drewN ?_ _) | (with_reducible refine Below.setCell ?_ ?_ _) | exact hBt.size | (have := hBt.size; first | omega | (simp; done) | (simp; omega)))) r2, cell_later (by repeat' (first | (with_reducible exact hBt) | (with_reducible refine Below.alloc ?_ ?_ _) | (with_reducible refine Below.drew ?_) | (with_reducible refine below_drewN ?_ _) | (with_reducible refine Below.setCell ?_ ?_ _) | exact hBt.size | (have := hBt.size; first | omega | (simp; done) | (simp; omega)))) s0, cell_later (by repeat' (first | (with_reducible exact hBt) | (with_reducible refine Below.alloc ?_ ?_ _) | (with_reducible refine Below.drew ?_) | (with_reducible refine below_drewN ?_ _) | (with_reducible refine Below.setCell ?_ ?_ _) | exact hBt.size | (have := hBt.size; first | omega | (simp; done) | (simp; omega)))) s1, cell_later (by repeat' (first | (with_reducible exact hBt) | (with_reducible refine Below.alloc ?_ ?_ _) | (with_reducible refine Below.drew ?_) | (with_reducible refine below_drewN ?_ _) | (with_reducible refine Below.setCell ?_ ?_ _) | exact hBt.size | (have := hBt.size; first | omega | (simp; done) | (simp; omega)))) s2⟩)
              (first
                | (go_at_call 20; refine (C1.out _ (by repeat' (first | (with_reducible exact hBt) | (with_reducible refine Below.alloc ?_ ?_ _) | (with_reducible refine Below.drew ?_) | (with_reducible refine below_drewN ?_ _) | (with_reducible refine Below.setCell ?_ ?_ _) | exact hBt.size | (have := hBt.size; first | omega | (simp; done) | (simp; omega))))).mono ?_; rintro e w9 ⟨pa, pc, rfl, ps, hb9⟩; replace hBt := bel_step (w := wr) (by repeat' (first | (with_reducible exact hBt) | (with_reducible refine Below.alloc ?_ ?_ _) | (with_reducible refine Below.drew ?_) | (with_reducible refine below_drewN ?_ _) | (with_reducible refine Below.setCell ?_ ?_ _) | exact hBt.size | (have := hBt.size; first | omega | (simp; done) | (simp; omega)))) hb9; have hsz9 := hBt.size)
                | (go_at_call 16; refine (C2.out _ (by repeat' (first | (with_reducible exact hBt) | (with_reducible refine Below.alloc ?_ ?_ _) | (with_reducible refine Below.drew ?_) | (with_reducible refine below_drewN ?_ _) | (with_reducible refine Below.setCell ?_ ?_ _) | exact hBt.size | (have := hBt.size; first | omega | (simp; done) | (simp; omega))))).mono ?_; rintro e w9 ⟨qa, qc, rfl, qs, hb9⟩; replace hBt := bel_step (w := wr) (by repeat' (first | (with_reducible exact hBt) | (with_reducible refine Below.alloc ?_ ?_ _) | (with_reducible refine Below.drew ?_) | (with_reducible refine below_drewN ?_ _) | (with_reducible refine Below.setCell ?_ ?_ _) | exact hBt.size | (have := hBt.size; first | omega | (simp; done) | (simp; omega)))) hb9; have hsz9 := hBt.size; replace ps := ps.below hb9)
                | (go_at_call 21; refine (C3.out _ (by repeat' (first | (with_reducible exact hBt) | (with_reducible refine Below.alloc ?_ ?_ _) | (with_reducible refine Below.drew ?_) | (with_reducible refine below_drewN ?_ _) | (with_reducible refine Below.setCell ?_ ?_ _) | exact hBt.size | (have := hBt.size; first | omega | (simp; done) | (simp; omega))))).mono ?_; rintro e w9 ⟨pa, pc, rfl, ps, hb9⟩; replace hBt := bel_step (w := wr) (by repeat' (first | (with_reducible exact hBt) | (with_reducible refine Below.alloc ?_ ?_ _) | (with_reducible refine Below.drew ?_) | (with_reducible refine below_drewN ?_ _) | (with_reducible refine Below.setCell ?_ ?_ _) | exact hBt.size | (have := hBt.size; first | omega | (simp; done) | (simp; omega)))) hb9; have hsz9 := hBt.size)
                | (go_at_call 22; refine (C4.out _ (by repeat' (first | (with_reducible exact hBt) | (with_reducible refine Below.alloc ?_ ?_ _) | (with_reducible refine Below.drew ?_) | (with_reducible refine below_drewN ?_ _) | (with_reducible refine Below.setCell ?_ ?_ _) | exact hBt.size | (have := hBt.size; first | omega | (simp; done) | (simp; omega))))).mono ?_; rintro e w9 ⟨qa, qc, rfl, qs, hb9⟩; replace hBt := bel_step (w := wr) (by repeat' (first | (with_reducible exact hBt) | (with_reducible refine Below.alloc ?_ ?_ _) | (with_reducible refine Below.drew ?_) | (with_reducible refine below_drewN ?_ _) | (with_reducible refine Below.setCell ?_ ?_ _) | exact hBt.size | (have := hBt.size; first | omega | (simp; done) | (simp; omega)))) hb9; have hsz9 := hBt.size; replace ps := ps.below hb9)
                | (go_at_call 19; (first | (with_reducible show Calls _ _ #[Value.slice _ m1 _, _] _ _; refine (T1.out _ _ _ _ _ ps qs).mono ?_) | (refine (T2.out _ _ _ _ _ ps qs).mono ?_)); rintro e w9 ⟨rfl, hb9⟩; replace hBt := bel_step (w := wr) (by repeat' (first | (with_reducible exact hBt) | (with_reducible refine Below.alloc ?_ ?_ _) | (with_reducible refine Below.drew ?_) | (with_reducible refine below_drewN ?_ _) | (with_reducible refine Below.setCell ?_ ?_ _) | exact hBt.size | (have := hBt.size; first | omega | (simp; done) | (simp; omega)))) hb9; have hsz9 := hBt.size))
            all_goals
              go_wp2_with fail
              go_roundg g
              case measure => omega
              case rel => exact ⟨k + 1, y + 1, by omega, by go_num, by have := HY.out; omega, bel_step hB ((by repeat' (first | (with_reducible exact hBt) | (with_reducible refine Below.alloc ?_ ?_ _) | (with_reducible refine Below.drew ?_) | (with_reducible refine below_drewN ?_ _) | (with_reducible refine Below.setCell ?_ ?_ _) | exact hBt.size | (have := hBt.size; first | omega | (simp; done) | (simp; omega)))))⟩
end Go.Proofs.Ytjjpnipcpnkakaa

/- HeadReads: what a reader of a head tells of each byte, and of the end, is the document's: the walk of the law. No condition. -/
import Derived.Test.YtkphfpckkmendaaHedI
import Derived.Test.YtkphfpckkmendaaHedH
import Derived.Test.YtkphfpckkmendaaHedL
import Derived.Test.YtkphfpckkmendaaHedO
import Derived.Test.YtkphfpckkmendaaFew
import Derived.Test.YtkphfpckkmendaaNumM
import Derived.Deep.DeepCutAuto
import Derived.Deep.RegionHeld3
namespace Go.Proofs.Ytkphfpckkmendaa
open Go.RowKit
set_option linter.unusedVariables false
namespace Hd
/-- where a reader is behind the first i bytes of a text -/
def AtB (l : L) (x : List Int) (i : Nat) (s : S) : Prop :=
  (s.p ≤ 3 ∧ parseV l x = parseF l s i (x.drop i)) ∨ (s.p = 4 ∧ ∃ n : Int, n ≤ i ∧ parseV l x = (hd s, n, 0)) ∨ (s.p = 5 ∧ ∃ n : Int, n ≤ i ∧ parseV l x = (none, n, s.e))
theorem atb_new (l : L) (x : List Int) : AtB l x 0 new := .inl ⟨by decide, rfl⟩
theorem put_over (l : L) (s : S) (c : Int) (h : 4 ≤ s.p) : put l s c = s := by
  unfold put; rw [if_neg (by omega), if_neg (by omega), if_neg (by omega), if_neg (by omega)]
/-- a byte more: where the reader is then, and what it tells of it -/
theorem atb_step {l : L} (hl : l.Ok) {x : List Int} {i : Nat} {s : S} (hg : Good l s) (h : AtB l x i s) (hi : i < x.length) :
    AtB l x (i + 1) (put l s (x.getD i 0)) ∧ ∀ (h0 : H) (n e : Int), parseV l x = (h0, n, e) → st (put l s (x.getD i 0)) = if n ≤ (i : Int) + 1 then (if e = 0 then 1 else if e = 6 then 0 else 2) else 0 := by
  have hgd : x.getD i 0 = x[i] := by rw [List.getD_eq_getElem?_getD, List.getElem?_eq_getElem hi]; rfl
  have hdr : x.drop i = x[i] :: x.drop (i + 1) := List.drop_eq_getElem_cons hi
  rw [hgd]
  rcases h with ⟨hp, hv⟩ | ⟨hp, n, hn, hv⟩ | ⟨hp, n, hn, hv⟩
  · rw [hdr, parse_cons _ _ _ hp] at hv
    have hg' := good_put hl hg x[i]
    obtain ⟨s', hs'⟩ : ∃ s', put l s x[i] = s' := ⟨_, rfl⟩
    rw [hs'] at hv hg' ⊢
    have hp5 := hg'.1
    by_cases h4 : s'.p = 4
    · rw [parse_over _ _ h4] at hv
      refine ⟨.inr (.inl ⟨h4, _, Int.le_refl _, hv⟩), fun h0 n e hh => ?_⟩
      rw [hv] at hh
      simp only [Prod.mk.injEq] at hh
      obtain ⟨_, rfl, rfl⟩ := hh
      unfold st; rw [if_pos h4, if_pos (by omega), if_pos rfl]
    by_cases h5 : s'.p = 5
    · rw [parse_wrong _ _ h5] at hv
      refine ⟨.inr (.inr ⟨h5, _, Int.le_refl _, hv⟩), fun h0 n e hh => ?_⟩
      have he := hg'.2.2.2.2.2.2.1 h5
      rw [hv] at hh
      simp only [Prod.mk.injEq] at hh
      obtain ⟨_, rfl, rfl⟩ := hh
      unfold st; rw [if_neg h4, if_pos h5, if_pos (by omega), if_neg (by omega), if_neg (by omega)]
    · refine ⟨.inl ⟨by omega, hv⟩, fun h0 n e hh => ?_⟩
      obtain ⟨e1, e2, e3⟩ := parse_ends hl (x.drop (i + 1)) s' (i + 1) hg' (by omega)
      rw [hv] at hh
      rw [hh] at e1 e2 e3
      simp only at e1 e2 e3
      unfold st; rw [if_neg h4, if_neg h5]
      by_cases h6 : e = 6
      · subst h6; split <;> simp
      · have := e2 h6
        rw [if_neg (by omega)]
  · rw [put_over l s _ (by omega)]
    refine ⟨.inr (.inl ⟨hp, n, by omega, hv⟩), fun h0 n2 e hh => ?_⟩
    rw [hv] at hh
    simp only [Prod.mk.injEq] at hh
    obtain ⟨_, rfl, rfl⟩ := hh
    unfold st; rw [if_pos hp, if_pos (by omega), if_pos rfl]
  · rw [put_over l s _ (by omega)]
    have he := hg.2.2.2.2.2.2.1 hp
    refine ⟨.inr (.inr ⟨hp, n, by omega, hv⟩), fun h0 n2 e hh => ?_⟩
    rw [hv] at hh
    simp only [Prod.mk.injEq] at hh
    obtain ⟨_, rfl, rfl⟩ := hh
    unfold st; rw [if_neg (by omega), if_pos hp, if_pos (by omega), if_neg (by omega), if_neg (by omega)]
theorem atb_end {l : L} {x : List Int} {s : S} (hg : Good l s) (h : AtB l x x.length s) {h0 : H} {n e : Int} (hv : parseV l x = (h0, n, e)) : val s = (h0, if e = 6 then 9 else e) := by
  rcases h with ⟨hp, h⟩ | ⟨hp, m, _, h⟩ | ⟨hp, m, _, h⟩
  · rw [List.drop_eq_nil_of_le (Nat.le_refl _), parse_nil _ hp, hv] at h
    simp only [Prod.mk.injEq] at h
    obtain ⟨rfl, rfl, rfl⟩ := h
    unfold val; rw [if_neg (by omega), if_neg (by omega), if_pos rfl]
  · rw [hv] at h
    simp only [Prod.mk.injEq] at h
    obtain ⟨rfl, rfl, rfl⟩ := h
    unfold val; rw [if_pos hp, if_neg (by omega)]
  · have he := hg.2.2.2.2.2.2.1 hp
    rw [hv] at h
    simp only [Prod.mk.injEq] at h
    obtain ⟨rfl, rfl, rfl⟩ := h
    unfold val; rw [if_neg (by omega), if_pos hp, if_neg (by omega)]
end Hd
set_option maxRecDepth 100000 in
set_option maxHeartbeats 8000000 in
theorem headReads_walk (a0 : ByteArray) (a1w0 a1h1 a1m2 : Int) (a2 : Int) (a3 : Bool) (w : World) (w0 : a0.size ≤ maxLen) (w10 : (Lit.int .i64 a1w0).wf = true) (w11 : (Lit.int .i64 a1h1).wf = true) (w12 : (Lit.int .i64 a1m2).wf = true) (w2 : (Lit.int .i64 a2).wf = true) :
    Calls Try.prog 4 #[.string a0, .agg #[.int .i64 a1w0, .int .i64 a1h1, .int .i64 a1m2], .int .i64 a2, .bool a3] w fun e w' => e = .returned (.bool true) ∧ Below w.heap.size w w' := by
  have i2 := wfI w2
  have HFW := Lib.hid (few_any a0 40 (by decide) w0)
  have hj0 := Ar.around_lt a2 6 (by omega)
  obtain ⟨kk, hkk⟩ : ∃ k : Int, Ar.around a2 6 = k := ⟨_, rfl⟩
  have HAR : Hid (∀ W, Calls Try.prog 9 #[.int .i64 a2, .int .i64 6] W fun e w' => e = .returned (.int .i64 kk) ∧ W = w') := fun W => by have := aroundOf a2 6 i2.1 i2.2 (by omega) (by omega) W; rw [hkk] at this; exact this
  rw [hkk] at hj0
  have hk1 : IntKind.i64.wrap (1 + kk) = 1 + kk := by rw [IntWalk.i64_in] <;> omega
  have HDC := Lib.hid (refDecimal_any (1 + kk) (by unfold Nu.I; omega))
  have HLm := Lib.hid (Hd.limits_ok a1w0 a1h1 a1m2)
  have HNW := Lib.hid (hnew_any a1w0 a1h1 a1m2)
  have HRP := Lib.hid (fun s hs => refParse_any s hs a1w0 a1h1 a1m2)
  obtain ⟨L, hL⟩ : ∃ L, Hd.limits a1w0 a1h1 a1m2 = L := ⟨_, rfl⟩
  rw [hL] at HLm HNW HRP
  have hdl : (strOfNums (Nu.decV (1 + kk))).size ≤ 66 := by rw [strOfNums_size]; exact Nu.decV_len (by unfold Nu.I; omega)
  obtain ⟨D, hD⟩ : ∃ D, strOfNums (Nu.decV (1 + kk)) = D := ⟨_, rfl⟩
  rw [hD] at HDC hdl
  have HDL := Lib.hid hdl
  have d0 : (w.alloc (.cells #[.int .i64 a1w0, .int .i64 a1h1, .int .i64 a1m2] 23)).cell? ⟨w.heap.size, 0, none⟩ = some (.int .i64 a1w0) := by simp [go_sem]
  have d1 : (w.alloc (.cells #[.int .i64 a1w0, .int .i64 a1h1, .int .i64 a1m2] 23)).cell? ⟨w.heap.size, 1, none⟩ = some (.int .i64 a1h1) := by simp [go_sem]
  have d2 : (w.alloc (.cells #[.int .i64 a1w0, .int .i64 a1h1, .int .i64 a1m2] 23)).cell? ⟨w.heap.size, 2, none⟩ = some (.int .i64 a1m2) := by simp [go_sem]
  have hbx := (Below.refl w.heap.size w).alloc (Nat.le_refl _) (.cells #[.int .i64 a1w0, .int .i64 a1h1, .int .i64 a1m2] 23)
  obtain ⟨W0, hW0⟩ : ∃ W0, w.alloc (.cells #[.int .i64 a1w0, .int .i64 a1h1, .int .i64 a1m2] 23) = W0 := ⟨_, rfl⟩
  have hlt0 : w.heap.size < W0.heap.size := by rw [← hW0]; simp
  clear w0 w10 w11 w12 w2 i2 hkk hL hdl hD
  go_enter Try.func4, Try.ntmps4
  go_upto_region 1 with fail
  rw [hW0] at d0 d1 d2 hbx
  try rw [hW0]
  clear hW0
  have HBX := Lib.hid hbx
  have D0 := Lib.hid d0; have D1 := Lib.hid d1; have D2 := Lib.hid d2
  clear d0 d1 d2 hbx
  go_wp2_with fail
  refine (HFW.out _).mono ?_
  rintro e w1 ⟨t0, rfl, ht0, rfl⟩
  have L1 : ¬ 9223372036854775807 < 1 + D.size := by have := HDL.out; omega
  have L2 : ¬ 9223372036854775807 < 1 + D.size + 1 := by have := HDL.out; omega
  have L3 : ¬ 9223372036854775807 < 1 + D.size + 1 + t0.size := by have := HDL.out; omega
  go_upto_if 20 with fail
  go_cut [0] (fun s0 wx => ∃ T : ByteArray, s0 = .string T ∧ T.size ≤ 200 ∧ Below W0.heap.size W0 wx)
  case first =>
    cases a3 with
    | true =>
      go_wp2_with fail
      go_meet
      case rel => exact ⟨_, rfl, by omega, .refl _ _⟩
    | false =>
      go_wp2_with (first | (go_at_call 9; refine (HAR.out _).mono ?_; rintro e w2 ⟨rfl, rfl⟩) | (go_at_call 14; refine (HDC.out _).mono ?_; rintro e w2 ⟨rfl, hb2⟩))
      go_meet
      case rel =>
        refine ⟨_, rfl, ?_, hb2⟩
        have := HDL.out
        simp only [ByteArray.size_append]
        have e1 : (⟨#[80]⟩ : ByteArray).size = 1 := rfl
        have e2 : (⟨#[32]⟩ : ByteArray).size = 1 := rfl
        omega
  case rest =>
    obtain ⟨T, rfl, hT, hbc⟩ := hcut
    have d0 := cell_later hbc D0.out
    have d1 := cell_later hbc D1.out
    have d2 := cell_later hbc D2.out
    have HBX1 := Lib.hid (HBX.out.trans (hbc.mono HBX.out.size))
    have hz0 : w.heap.size < wc.heap.size := Nat.lt_of_lt_of_le hlt0 hbc.size
    clear hbc HFW HAR HDC HDL L1 L2 L3
    go_wp2_with fail
    refine (HNW.out _).mono ?_
    rintro e w3 ⟨b, rfl, hbw, hX, hb3⟩
    have e0 := cell_later hb3 d0
    have e1 := cell_later hb3 d1
    have e2 := cell_later hb3 d2
    clear d0 d1 d2
    have HX3 := Lib.hid hX
    have hblt := hX.lt
    have HBX3 := Lib.hid (HBX1.out.trans (hb3.mono HBX1.out.size))
    have HB3 := Lib.hid hb3
    clear hX
    go_wp2_with fail
    refine (HRP.out T (by omega) _).mono ?_
    unfold RParR
    have hpe := Hd.parse_ends HLm.out (bytesOf T) Hd.new 0 (Hd.good_new HLm.out) (by decide)
    obtain ⟨P, hP⟩ : ∃ P, Hd.parseV L (bytesOf T) = P := ⟨_, rfl⟩
    have hpe : ((0 : Nat) : Int) ≤ (Hd.parseV L (bytesOf T)).2.1 ∧ _ := hpe
    rw [hP] at hpe ⊢
    obtain ⟨⟨kd, ww, hh, mx⟩, n, er⟩ := P
    have HP := Lib.hid hP
    have hn0 : 0 ≤ n := hpe.1
    rintro e w4 ⟨rfl, hb4⟩
    unfold agH
    simp only
    have HX4 := Lib.hid (HX3.out.later hb4)
    have HBX4 := Lib.hid (HBX3.out.trans (hb4.mono HBX3.out.size))
    have hblt4 : b < w4.heap.size := Nat.lt_of_lt_of_le hblt hb4.size
    have HB4 := Lib.hid (HB3.out.trans (hb4.mono HB3.out.size))
    clear e0 e1 e2 hP hpe
    go_upto_region 8 with fail
    have Y := Hb.new w4 25 ⟨kd, ww, hh, mx⟩
    have hb5 := (Below.refl w4.heap.size w4).alloc (Nat.le_refl _) (.cells #[.int .i64 kd, .int .i64 ww, .int .i64 hh, .int .i64 mx] 25)
    simp only at Y
    obtain ⟨hb, hhb⟩ : ∃ hb, w4.heap.size = hb := ⟨_, rfl⟩
    obtain ⟨w5, hw5⟩ : ∃ w5, w4.alloc (.cells #[.int .i64 kd, .int .i64 ww, .int .i64 hh, .int .i64 mx] 25) = w5 := ⟨_, rfl⟩
    rw [hw5] at Y hb5
    try rw [hw5]
    rw [hhb] at Y hblt4
    try rw [hhb]
    have HX5 := Lib.hid (HX4.out.later hb5)
    have HBX5 := Lib.hid (HBX4.out.trans (hb5.mono HBX4.out.size))
    have HB5 := Lib.hid (HB4.out.trans (hb5.mono HB4.out.size))
    have HY := Lib.hid Y
    have hwc : wc.heap.size ≤ hb := by rw [← hhb]; exact HB4.out.size
    clear hw5 hb5 Y hhb
    obtain ⟨N, hN⟩ : ∃ N, T.size = N := ⟨_, rfl⟩
    have hTs : ((T.size : Nat) : Int) = (N : Int) := by rw [hN]
    have HN := Lib.hid hN
    rw [hN] at hT
    go_wp2_with fail
    go_loopg [13] N (fun g s13 wr => ∃ (i : Nat) (st : Hd.S) (n' : Nat), i + g = N ∧ s13 = .int .i64 (i : Int) ∧ HdX (Hd.st st) wr b n' L st ∧ Hd.AtB L (bytesOf T) i st ∧ wc.heap.size ≤ n' ∧ n' ≠ hb ∧ Hb wr hb 25 ⟨kd, ww, hh, mx⟩ ∧ Below wc.heap.size wc wr)
    case atStart => exact ⟨0, Hd.new, b, by omega, rfl, HX5.out, Hd.atb_new _ _, hbw, by omega, HY.out, HB5.out⟩
    case round =>
      obtain ⟨i, st, n', hig, rfl, hX, hA, hn1, hn2, hY, hB⟩ := hrel
      have k0 : (0 : Int) ≤ i := Int.natCast_nonneg _
      cases gk with
      | zero =>
        obtain rfl : i = N := by omega
        have hval := Hd.atb_end hX.1 (show Hd.AtB L (bytesOf T) (bytesOf T).length st by rw [bytesOf_length, HN.out]; exact hA) HP.out
        have HH := head_s hX
        rw [hval] at HH
        unfold agH at HH
        simp only at HH
        have HH := Lib.hid HH
        have HY' := Lib.hid hY
        have HB' := Lib.hid (HBX1.out.trans (hB.mono HBX1.out.size))
        clear hX hA hval hY hB
        obtain ⟨k0', k1', k2', k3'⟩ := HY'.out.cells
        have EQ := rheq_self kd ww hh mx
        have EG := rheq_guard
        clear k0' k1' k2' k3'
        by_cases h66 : er = 6
        · subst h66
          have HH2 := HH.out
          simp only [if_true] at HH2
          have HH3 := Lib.hid HH2
          clear HH2
          go_wp2_with fail
          refine HH3.out.mono ?_
          rintro e w6 ⟨rfl, hb6⟩
          have HY6 := Lib.hid (HY'.out.later hb6)
          have HB6 := Lib.hid (HB'.out.trans (hb6.mono HB'.out.size))
          clear hb6
          go_upto_region 19 with fail
          have Z := Hb.new w6 36 ⟨kd, ww, hh, mx⟩
          have hb7 := (Below.refl w6.heap.size w6).alloc (Nat.le_refl _) (.cells #[.int .i64 kd, .int .i64 ww, .int .i64 hh, .int .i64 mx] 36)
          simp only at Z
          obtain ⟨jb, hjb⟩ : ∃ jb, w6.heap.size = jb := ⟨_, rfl⟩
          obtain ⟨w7, hw7⟩ : ∃ w7, w6.alloc (.cells #[.int .i64 kd, .int .i64 ww, .int .i64 hh, .int .i64 mx] 36) = w7 := ⟨_, rfl⟩
          rw [hw7] at Z hb7
          try rw [hw7]
          rw [hjb] at Z
          try rw [hjb]
          have HY7 := Lib.hid (HY6.out.later hb7)
          have HB7 := Lib.hid (HB6.out.trans (hb7.mono HB6.out.size))
          obtain ⟨c0, c1, c2, c3⟩ := Z.cells
          obtain ⟨y0, y1, y2, y3⟩ := HY7.out.cells
          simp only at c0 c1 c2 c3 y0 y1 y2 y3
          clear hw7 hb7 hjb Z
          have hBt := Below.refl w7.heap.size w7
          go_upto_region 21 with fail
          go_region_held3 (fun w' => w'.cell? ⟨jb, 0, none⟩ = some (.int .i64 kd) ∧ w'.cell? ⟨jb, 1, none⟩ = some (.int .i64 ww) ∧ w'.cell? ⟨jb, 2, none⟩ = some (.int .i64 hh) ∧ w'.cell? ⟨jb, 3, none⟩ = some (.int .i64 mx) ∧ w'.cell? ⟨hb, 0, none⟩ = some (.int .i64 kd) ∧ w'.cell? ⟨hb, 1, none⟩ = some (.int .i64 ww) ∧ w'.cell? ⟨hb, 2, none⟩ = some (.int .i64 hh) ∧ w'.cell? ⟨hb, 3, none⟩ = some (.int .i64 mx))
            (first | exact ⟨c0, c1, c2, c3, y0, y1, y2, y3⟩ | exact ⟨cell_later hBt c0, cell_later hBt c1, cell_later hBt c2, cell_later hBt c3, cell_later hBt y0, cell_later hBt y1, cell_later hBt y2, cell_later hBt y3⟩)
            (first | (go_at_call 13; refine (has_any ⟨kd, ww, hh, mx⟩ _).mono ?_; unfold agH; rintro e w9 ⟨rfl, hb9⟩; replace hBt := bel_step (w := w7) (by first | exact hBt | exact hBt.drew) hb9) | (go_at_call 8; refine (lives6_any _).mono ?_; rintro e w9 ⟨rfl, hb9⟩; replace hBt := bel_step (w := w7) (by first | exact hBt | exact hBt.drew) hb9))
          all_goals
            go_wp2
            go_ret
            exact ⟨by first | rfl | simp, HB7.out.trans (hBt.mono HB7.out.size)⟩
        · have hz3 : (er == 6) = false := by simpa using h66
          have HH2 := HH.out
          simp only [if_neg h66] at HH2
          have HH3 := Lib.hid HH2
          clear HH2
          go_wp2_with fail
          refine HH3.out.mono ?_
          rintro e w6 ⟨rfl, hb6⟩
          have HY6 := Lib.hid (HY'.out.later hb6)
          have HB6 := Lib.hid (HB'.out.trans (hb6.mono HB'.out.size))
          clear hb6
          go_upto_region 19 with fail
          have Z := Hb.new w6 36 ⟨kd, ww, hh, mx⟩
          have hb7 := (Below.refl w6.heap.size w6).alloc (Nat.le_refl _) (.cells #[.int .i64 kd, .int .i64 ww, .int .i64 hh, .int .i64 mx] 36)
          simp only at Z
          obtain ⟨jb, hjb⟩ : ∃ jb, w6.heap.size = jb := ⟨_, rfl⟩
          obtain ⟨w7, hw7⟩ : ∃ w7, w6.alloc (.cells #[.int .i64 kd, .int .i64 ww, .int .i64 hh, .int .i64 mx] 36) = w7 := ⟨_, rfl⟩
          rw [hw7] at Z hb7
          try rw [hw7]
          rw [hjb] at Z
          try rw [hjb]
          have HY7 := Lib.hid (HY6.out.later hb7)
          have HB7 := Lib.hid (HB6.out.trans (hb7.mono HB6.out.size))
          obtain ⟨c0, c1, c2, c3⟩ := Z.cells
          obtain ⟨y0, y1, y2, y3⟩ := HY7.out.cells
          simp only at c0 c1 c2 c3 y0 y1 y2 y3
          clear hw7 hb7 hjb Z
          have hBt := Below.refl w7.heap.size w7
          go_upto_region 21 with fail
          go_region_held3 (fun w' => w'.cell? ⟨jb, 0, none⟩ = some (.int .i64 kd) ∧ w'.cell? ⟨jb, 1, none⟩ = some (.int .i64 ww) ∧ w'.cell? ⟨jb, 2, none⟩ = some (.int .i64 hh) ∧ w'.cell? ⟨jb, 3, none⟩ = some (.int .i64 mx) ∧ w'.cell? ⟨hb, 0, none⟩ = some (.int .i64 kd) ∧ w'.cell? ⟨hb, 1, none⟩ = some (.int .i64 ww) ∧ w'.cell? ⟨hb, 2, none⟩ = some (.int .i64 hh) ∧ w'.cell? ⟨hb, 3, none⟩ = some (.int .i64 mx))
            (first | exact ⟨c0, c1, c2, c3, y0, y1, y2, y3⟩ | exact ⟨cell_later hBt c0, cell_later hBt c1, cell_later hBt c2, cell_later hBt c3, cell_later hBt y0, cell_later hBt y1, cell_later hBt y2, cell_later hBt y3⟩)
            (first | (go_at_call 13; refine (has_any ⟨kd, ww, hh, mx⟩ _).mono ?_; unfold agH; rintro e w9 ⟨rfl, hb9⟩; replace hBt := bel_step (w := w7) (by first | exact hBt | exact hBt.drew) hb9) | (go_at_call 8; refine (lives6_any _).mono ?_; rintro e w9 ⟨rfl, hb9⟩; replace hBt := bel_step (w := w7) (by first | exact hBt | exact hBt.drew) hb9))
          all_goals
            go_wp2
            go_ret
            exact ⟨by first | rfl | simp, HB7.out.trans (hBt.mono HB7.out.size)⟩
      | succ g =>
        have hlt : i < N := by omega
        have hltI : (i : Int) < (N : Int) := by omega
        have hiT : i < T.size := by rw [HN.out]; exact hlt
        obtain ⟨hA', hst⟩ := Hd.atb_step HLm.out hX.1 hA (show i < (bytesOf T).length by rw [bytesOf_length]; exact hiT)
        have hst := hst _ _ _ HP.out
        have hbt : (bytesOf T).getD i 0 = (T[i].toNat : Int) := by
          have := bytesOf_drop T i hiT
          rw [List.drop_eq_getElem_cons (by rw [bytesOf_length]; exact hiT)] at this
          rw [List.getD_eq_getElem?_getD, List.getElem?_eq_getElem (by rw [bytesOf_length]; exact hiT)]
          exact (List.cons.inj this).1
        rw [hbt] at hA' hst
        have HPT := hput_any HLm.out hX.1 (T[i].toNat : Int) (by omega) (by have := T[i].toNat_lt; omega) wr b n' hX
        obtain ⟨st', hst'⟩ : ∃ st', Hd.put L st (T[i].toNat : Int) = st' := ⟨_, rfl⟩
        rw [hst'] at hA' hst HPT
        unfold HPutR at HPT
        obtain ⟨q, hq⟩ : ∃ q, Hd.st st' = q := ⟨_, rfl⟩
        have hXlt := hX.lt
        rw [hq] at hst
        have HPT := Lib.hid HPT
        have HQ := Lib.hid hq
        have HA' := Lib.hid hA'
        have HB' := Lib.hid hB
        have HY' := Lib.hid hY
        rw [hq] at HPT
        clear hX hA hst' hA' hbt hq hB hY
        have hnh : ¬ two b n' hb := two_ne (by omega) (by omega)
        have hsz := HB'.out.size
        have hRound : ∀ (w9 : World) (n9 : Nat), HdX q w9 b n9 L st' → Sep (two b n') wr w9 → (n9 = n' ∨ wr.heap.size ≤ n9) → (wc.heap.size ≤ n9 ∧ n9 ≠ hb ∧ Hb w9 hb 25 ⟨kd, ww, hh, mx⟩ ∧ Below wc.heap.size wc w9) := fun w9 n9 h1 h2 h3 => by
          have hhl := HY'.out.lt
          refine ⟨by rcases h3 with rfl | h3 <;> omega, by rcases h3 with rfl | h3 <;> omega, HY'.out.sep h2 hnh, Sep.bel2 HB'.out h2 hsz hbw hn1⟩
        have HRo := Lib.hid hRound
        clear hRound
        by_cases hn9 : n ≤ (i : Int) + 1
        · rw [if_pos hn9] at hst
          by_cases h00 : er = 0
          · rw [if_pos h00] at hst
            subst h00
            subst hst
            go_wp2_with (first | (go_at_call 16; refine (HPT.out).mono ?_; rintro e w9 ⟨n9, rfl, hX9, hS9, h9⟩; have HX9 := Lib.hid hX9; obtain ⟨r1, r2, r3, r4⟩ := HRo.out w9 n9 hX9 hS9 h9; clear hX9 hS9 h9))
            go_roundg g
            case measure => omega
            case rel => exact ⟨i + 1, st', n9, by omega, by go_num, by rw [HQ.out]; exact HX9.out, HA'.out, r1, r2, r3, r4⟩
          · rw [if_neg h00] at hst
            have hz1 : (er == 0) = false := by simpa using h00
            have hz2 : (er != 0) = true := by simpa using h00
            by_cases h66 : er = 6
            · rw [if_pos h66] at hst
              subst h66
              subst hst
              go_wp2_with (first | (go_at_call 16; refine (HPT.out).mono ?_; rintro e w9 ⟨n9, rfl, hX9, hS9, h9⟩; have HX9 := Lib.hid hX9; obtain ⟨r1, r2, r3, r4⟩ := HRo.out w9 n9 hX9 hS9 h9; clear hX9 hS9 h9))
              go_roundg g
              case measure => omega
              case rel => exact ⟨i + 1, st', n9, by omega, by go_num, by rw [HQ.out]; exact HX9.out, HA'.out, r1, r2, r3, r4⟩
            · rw [if_neg h66] at hst
              have hz3 : (er != 6) = true := by simpa using h66
              subst hst
              go_wp2_with (first | (go_at_call 16; refine (HPT.out).mono ?_; rintro e w9 ⟨n9, rfl, hX9, hS9, h9⟩; have HX9 := Lib.hid hX9; obtain ⟨r1, r2, r3, r4⟩ := HRo.out w9 n9 hX9 hS9 h9; clear hX9 hS9 h9))
              go_roundg g
              case measure => omega
              case rel => exact ⟨i + 1, st', n9, by omega, by go_num, by rw [HQ.out]; exact HX9.out, HA'.out, r1, r2, r3, r4⟩
        · rw [if_neg hn9] at hst
          subst hst
          go_wp2_with (first | (go_at_call 16; refine (HPT.out).mono ?_; rintro e w9 ⟨n9, rfl, hX9, hS9, h9⟩; have HX9 := Lib.hid hX9; obtain ⟨r1, r2, r3, r4⟩ := HRo.out w9 n9 hX9 hS9 h9; clear hX9 hS9 h9))
          go_roundg g
          case measure => omega
          case rel => exact ⟨i + 1, st', n9, by omega, by go_num, by rw [HQ.out]; exact HX9.out, HA'.out, r1, r2, r3, r4⟩
end Go.Proofs.Ytkphfpckkmendaa

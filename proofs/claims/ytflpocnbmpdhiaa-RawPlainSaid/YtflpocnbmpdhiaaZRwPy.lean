/- Pixels of a head of a raster of bytes, made of any numbers, by the document, over any memory. Condition: the head may be, there are not too many. -/
import Derived.Test.YtflpocnbmpdhiaaZgAF
namespace Go.Proofs.Ytflpocnbmpdhiaa
open Go.RowKit
set_option linter.unusedVariables false
set_option maxRecDepth 100000 in
set_option maxHeartbeats 4000000 in
theorem rwPixels_pos (blk off : Nat) (ln cap : Nat) (z : List Int) (G : Hd.H) (hm : Rw.May G) (N : Nat) (hN : G.w * G.h = (N : Int)) (hN1 : N ≤ 100000) (w : World) (hln : ln ≤ 9223372036854775807) (hz : ln ≠ 0) (hzl : z.length = ln) (hs : ∀ i, i < ln → w.cell? ⟨blk, off + i, none⟩ = some (.int .i64 (z.getD i 0))) (hI : ∀ x ∈ z, Nu.I x) :
    Calls Try.prog 38 #[.slice (some ⟨blk, off, none⟩) ln cap, agH G] w (PxR N G w) := by
  have hmm := hm.m
  have hF := refFormat_any G hm.1
  have hcc := Hj.chan_at G
  unfold Hj.fm agH at hF
  obtain ⟨i0, hi, hz0, hz1, hz2⟩ : ∃ i, Try.prog.info? 3 = some i ∧ i.zero = some (.int .i64 0) ∧ i.size = 1 ∧ i.bytes = 8 := (by have h := Try.info_in8; cases hh : Try.prog.info? 3 with | none => rw [hh] at h; cases h | some i => rw [hh] at h; simp at h; exact ⟨i, rfl, h.1, h.2.1, h.2.2⟩)
  obtain ⟨p0, pi, pz0, pz1, pz2⟩ : ∃ i, Try.prog.info? 71 = some i ∧ i.zero = some (.int .u64 0) ∧ i.size = 1 ∧ i.bytes = 8 := (by have h := Try.info_px8; cases hh : Try.prog.info? 71 with | none => rw [hh] at h; cases h | some i => rw [hh] at h; simp at h; exact ⟨i, rfl, h.1, h.2.1, h.2.2⟩)
  have hte : 3 ≠ 71 := by decide
  obtain ⟨c, hc⟩ : ∃ c : Nat, Hj.chan G = (c : Int) := ⟨(Hj.chan G).toNat, by omega⟩
  have hc13 : c = 1 ∨ c = 3 := by omega
  have HGP : Hid (∀ l, Pq.GoodP (Pq.Px.goodV l c G.m) c G.m) := Lib.hid fun l => Pq.good_is l (by omega) (by omega) (by omega)
  have HGS : Hid (∀ (a : Option Addr) (len cap : Nat) (l : List Int) (W : World), len ≤ 9223372036854775807 → (∀ x ∈ l, Nu.I x) → Pq.Sl W a len l → Calls Try.prog 64 #[.slice a len cap, .agg #[.int .i64 c, .int .i64 G.m]] W fun e w' => e = .returned (.int .u64 (Pq.Px.goodV l c G.m)) ∧ Below W.heap.size W w') := Lib.hid fun a len cap l W h1 h2 h3 => Pq.good_sl a len cap l c G.m h1 (fun x hx => h2 x hx) (by omega) (by omega) (by omega) W h3
  rw [hc] at hF
  have HF := Lib.hid hF
  have HS := Lib.hid hs
  have HZ0 := Lib.hid hzl
  have HI := Lib.hid hI
  have HC := Lib.hid hc
  have HN := Lib.hid hN
  have gN : wrap64 (G.w * G.h) = (N : Int) := by rw [hN, IntWalk.wrap64_in] <;> omega
  clear hzl
  clear hF hs hI hc hN hmm hm hcc
  unfold agH
  go_enter Try.func38, Try.ntmps38
  go_wp2_with fail
  refine (HF.out _).mono ?_
  rintro e w1 ⟨rfl, hb⟩
  have HB1 := Lib.hid (((Below.refl _ w).alloc (Nat.le_refl _) _).trans (hb.mono (by simp)))
  have HK1 := Lib.hid ((Hb.new w 25 G).later hb)
  clear hb
  go_upto_region 3 with fail
  generalize hW : w1.alloc (.cells #[.int .i64 c, .int .i64 G.m] 108) = w3
  have hx : Below w1.heap.size w1 w3 := by rw [← hW]; exact box1' _ _
  have l0 : w3.cell? ⟨w1.heap.size, 0, none⟩ = some (.int .i64 c) := by rw [← hW]; simp [go_sem]
  have l1 : w3.cell? ⟨w1.heap.size, 1, none⟩ = some (.int .i64 G.m) := by rw [← hW]; simp [go_sem]
  have HB3 := Lib.hid (HB1.out.trans (hx.mono HB1.out.size))
  have HK3 := Lib.hid (HK1.out.later hx)
  have HL0 := Lib.hid l0
  have HL1 := Lib.hid l1
  clear hW hx l0 l1 HB1 HK1
  go_wp2_with fail
  go_loopw [6, 7] (fun u6 u7 wr => PxOut w3 N G u6 u7 wr) (fun _ u7 _ => N - (intOf u7).toNat)
  case atStart => exact ⟨0, [], _, Nat.zero_le _, rfl, rfl, World.ownsRow_nil _ _ _ _, rfl, (fun p hp => by cases hp), .refl _ _⟩
  case round =>
    obtain ⟨i, gs, v, hi1, rfl, rfl, hrow, hgl, hfit, hB⟩ := hrel
    have HROW := Lib.hid hrow
    have HFIT := Lib.hid hfit
    have HGL := Lib.hid hgl
    have HB := Lib.hid hB
    have hK := HK3.out.later hB
    obtain ⟨k0, k1, k2, k3⟩ := hK.cells
    clear hrow hfit hgl hB hK
    by_cases hlt : i < N
    · have hP : (i : Int) * (c : Int) = ((i * c : Nat) : Int) := by simp
      obtain ⟨P, hPP⟩ : ∃ P : Nat, i * c = P := ⟨_, rfl⟩
      rw [hPP] at hP
      have hP1 : P ≤ 300000 := by rw [← hPP]; rcases hc13 with h | h <;> subst h <;> omega
      have gP : wrap64 ((i : Int) * (c : Int)) = (P : Int) := by rw [hP, IntWalk.wrap64_in] <;> omega
      have HP := Lib.hid hP
      clear hP hPP
      go_wp2_with fail
      clear k0 k1 k2 k3 gN
      go_loopw [8, 9, 10] (fun u8 u9 u10 wr => PxIn w3 c i gs v u8 u9 wr) (fun _ u9 _ _ => c - (intOf u9).toNat)
      case atStart => exact ⟨0, [], _, Nat.zero_le _, rfl, rfl, World.ownsRow_nil _ _ _ _, rfl, (fun x hx => by cases hx), HROW.out, HB.out⟩
      case round =>
        obtain ⟨k, zs, u, hk1, rfl, rfl, hro, hzl, hzI, hrp, hC⟩ := hrel
        have HRO := Lib.hid hro
        have HZI := Lib.hid hzI
        have HZL := Lib.hid hzl
        have HRP := Lib.hid hrp
        have HC2 := Lib.hid hC
        have l0 := cell_later hC HL0.out
        have l1 := cell_later hC HL1.out
        clear hro hzI hzl hrp hC HROW HB
        by_cases hkt : k < c
        · have hck : c ≤ 3 := by omega
          have q1 : 0 < ln := by omega
          have q2 : decide (0 < (ln : Int)) = true := decide_eq_true (by omega)
          have q3 : (0 : Int) < (ln : Int) := by omega
          have q4 : decide (0 < ln) = true := decide_eq_true q1
          have q5 : ¬ (ln : Int) = 0 := by omega
          have q6 : ((ln : Int) == 0) = false := by simp; omega
          have q7 : (ln == 0) = false := by simp; omega
          obtain ⟨r, hr⟩ : ∃ r, (P + k) % ln = r := ⟨_, rfl⟩
          have hrl : r < ln := by rw [← hr]; exact Nat.mod_lt _ q1
          have e1 : ((P : Int) + (k : Int)) % (ln : Int) = (r : Int) := by rw [← hr]; simp
          have e2 : ((P : Int) + (k : Int)).tmod (ln : Int) = (r : Int) := by rw [Int.tmod_eq_emod_of_nonneg (by omega)]; exact e1
          have e3 : wrap64 ((P : Int) + (k : Int)) = (P : Int) + k := by rw [IntWalk.wrap64_in] <;> omega
          have e4 : wrap64 (r : Int) = (r : Int) := by rw [IntWalk.wrap64_in] <;> omega
          obtain ⟨y, hy⟩ : ∃ y, z.getD r 0 = y := ⟨_, rfl⟩
          have hyI : Nu.I y := by
            rw [← hy, List.getD_eq_getElem?_getD, List.getElem?_eq_getElem (by rw [HZ0.out]; exact hrl)]
            exact HI.out _ (List.getElem_mem _)
          have HYI := Lib.hid hyI
          have hcell : wr.cell? ⟨blk, off + r, none⟩ = some (.int .i64 y) := cell_later (HB3.out.trans (HC2.out.mono HB3.out.size)) (by rw [HS.out r hrl, hy])
          clear hr hy hyI
          go_wp2_with (at_builtin; refine wpList_app rfl _ _ 69 rfl w3.heap.size 3 i0 .i64 8 Try.underlying69 hi hz0 hz1 hz2 u k (ints zs) rfl (HRO.out.alloc _) (some ⟨_, 0, none⟩) 1 1 [y] rfl (one_slk _ _ _ _) (by unfold maxLen; omega) (by omega) (by have := HC2.out.size; simp; omega) ?_; intro v2 w5 hown hgrow hat; have HO5 := Lib.hid hown; have HR5 := Lib.hid ((HRP.out.alloc _).kept hgrow (apart_rows (Ne.symm hte) HRP.out HRO.out)); have HC5 := Lib.hid ((HC2.out.alloc HC2.out.size _).grown hgrow (by have := HC2.out.size; simp; omega) (fun j ej => (HRO.out.lt j ej).1)); clear hown hgrow hat)
          go_roundw
          case rel => exact ⟨k + 1, zs ++ [y], v2, by omega, by go_num, rfl, by have h := HO5.out; unfold ints; rw [List.map_append]; exact h, by rw [List.length_append, HZL.out]; rfl, (fun x hx => by
            rcases List.mem_append.1 hx with h | h
            · exact HZI.out x h
            · rw [List.mem_singleton.1 h]; exact HYI.out), HR5.out, HC5.out⟩
          case measure => simp [intOf]; omega
        · have hkc : k = c := by omega
          subst hkc
          obtain ⟨a', c', rfl, hsl⟩ := sl_of_row (z := 0) rfl HRO.out HZL.out
          have HSL := Lib.hid hsl
          obtain ⟨g, hg⟩ : ∃ g, Pq.Px.goodV zs k G.m = g := ⟨_, rfl⟩
          have HGG := Lib.hid hg
          clear hsl hg
          have hk9 : k ≤ 3 := by omega
          go_wp2_with (first
            | (at_builtin; refine wpList_app rfl _ _ 52 rfl w3.heap.size 71 p0 .u64 8 Try.underlying52 pi pz0 pz1 pz2 v i (pixs gs) rfl (HR9.out.alloc _) (some ⟨_, 0, none⟩) 1 1 [g] rfl (one_slk _ _ _ _) (by unfold maxLen; omega) (by omega) (by have := HC9.out.size; simp; omega) ?_; intro v2 w5 hown hgrow hat; have HO5 := Lib.hid hown; have HC5 := Lib.hid ((HC9.out.alloc HC9.out.size _).grown hgrow (by have := HC9.out.size; simp; omega) (fun j ej => (HR9.out.lt j ej).1)); clear hown hgrow hat)
            | (go_at_call 64; refine (HGS.out a' k c' zs _ (by omega) HZI.out HSL.out).mono ?_; rw [HGG.out]; rintro e w9 ⟨rfl, hb⟩; have HR9 := Lib.hid (below_row HRP.out hb); have HC9 := Lib.hid (HC2.out.trans (hb.mono HC2.out.size)); clear hb))
          go_roundw
          case rel => exact ⟨i + 1, gs ++ [g], v2, by omega, by go_num, rfl, by have h := HO5.out; unfold pixs; rw [List.map_append]; exact h, by rw [List.length_append, HGL.out]; rfl, (fun x hx => by
            rcases List.mem_append.1 hx with h | h
            · exact HFIT.out x h
            · rw [List.mem_singleton.1 h, ← HGG.out, HC.out]; exact HGP.out zs), HC5.out⟩
          case measure => simp [intOf]; omega
    · have hiN : i = N := by omega
      obtain ⟨ad, cp, rfl, _⟩ : ∃ ad cp, v = .slice ad i cp ∧ True := by
        rcases HROW.out.2 with ⟨rfl, rfl⟩ | ⟨g, cap, cur, rfl, _⟩
        · exact ⟨none, 0, rfl, trivial⟩
        · exact ⟨_, _, rfl, trivial⟩
      subst hiN
      go_wp2
      go_ret
      exact ⟨ad, cp, gs, rfl, HGL.out, HFIT.out, ownsRow_base HROW.out (HB3.out.size), HB3.out.trans (HB.out.mono HB3.out.size)⟩
end Go.Proofs.Ytflpocnbmpdhiaa

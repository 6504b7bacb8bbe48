/- A raster of bytes written by the code, over any memory. Condition: the head may be, at most 80 by 4; the pixels fit. -/
import Derived.Test.YtflpocnbmpdhiaaZRwRb
import Derived.Test.YtflpocnbmpdhiaaZgAH
import Derived.Test.YtflpocnbmpdhiaaZPlWi
import Derived.Laws.MakeOwn
namespace Go.Proofs.Ytflpocnbmpdhiaa
open Go.RowKit Go.Shelf
attribute [local go_sem] Oper.semAt_some
set_option linter.unusedVariables false
theorem wr_src {w : World} {a : Option Addr} {n : Nat} {zs : List Int} (h : SlK .u8 w a n zs) (hn : 0 < n) : ∃ ad, a = some ad ∧ ∀ j v, (byts zs)[j]? = some v → w.cell? (ad.add j) = some v := by
  obtain ⟨b, off, rfl, hc⟩ := Rw.slk_pos h hn
  refine ⟨_, rfl, fun j v hv => ?_⟩
  unfold byts at hv
  rw [List.getElem?_map] at hv
  rcases Nat.lt_or_ge j zs.length with hj | hj
  · rw [List.getElem?_eq_getElem hj] at hv
    rw [addrK_add, hc j (by rw [← h.1]; exact hj), ← hv, List.getD_eq_getElem?_getD, List.getElem?_eq_getElem hj]; rfl
  · rw [List.getElem?_eq_none hj] at hv; cases hv
theorem byt_one (zs : List Int) : ∀ u ∈ byts zs, u.oneCell' = true := by
  intro u hu
  obtain ⟨y, _, rfl⟩ := List.mem_map.1 hu
  rfl
theorem wr_part {w : World} {bk of n : Nat} {l : List Int} {gw gh y : Nat} (h : SlK .u64 w (some ⟨bk, of, none⟩) n l) (hn : n = gw * gh) (hy : y < gh) : SlK .u64 w (some ⟨bk, of + gw * y, none⟩) gw ((l.drop (y * gw)).take gw) := by
  have h1 : (y + 1) * gw ≤ gh * gw := Nat.mul_le_mul_right gw hy
  rw [Nat.add_mul, Nat.one_mul, Nat.mul_comm gh gw] at h1
  refine ⟨by rw [List.length_take, List.length_drop, h.1]; omega, ?_⟩
  rcases h.2 with h0 | ⟨g', o', e, hc⟩
  · left; omega
  · cases e
    refine .inr ⟨bk, of + gw * y, rfl, fun i hi => ?_⟩
    rw [Nat.add_assoc, Nat.mul_comm gw y, hc (y * gw + i) (by omega), List.getD_eq_getElem?_getD, List.getD_eq_getElem?_getD, List.getElem?_take_of_lt hi, List.getElem?_drop]
set_option maxRecDepth 100000 in
set_option maxHeartbeats 4000000 in
theorem rwWrite_no (a : Option Addr) (n cap : Nat) (l : List Int) (G : Hd.H) (hf : Hj.Fit G) (hm : Rw.May G) (hn : n ≤ 100000) (hN : G.w * G.h = (n : Int)) (hl : ∀ p ∈ l, Pq.Px.U p) (hno : Pl.fitAll G l = false) (w : World) (hs : SlK .u64 w a n l) :
    Calls Try.prog 39 #[.slice a n cap, agH G] w (RwwR ([], 1) w) := by
  have hMY := rwMay_any G hf
  rw [decide_eq_true hm] at hMY
  have hmm := hm.m
  have hF := hformat_any G hm.1
  unfold Hj.fm at hF
  have hFT := fun W hb => rwFit_any a n cap l G (by omega) hl W (hs.below hb)
  rw [hno] at hFT
  obtain ⟨C, hC⟩ : ∃ C, Hj.chan G = C := ⟨_, rfl⟩
  rw [hC] at hF hFT
  unfold agH at hMY hF ⊢
  have HMY := Lib.hid hMY
  have HF := Lib.hid hF
  have HFT := Lib.hid hFT
  have gN : wrap64 (G.w * G.h) = (n : Int) := by rw [hN, IntWalk.wrap64_in] <;> omega
  have gn : ((n : Int) != (n : Int)) = false := by simp
  clear hMY hF hFT hs hl hno hN hC hm hf
  go_enter Try.func39, Try.ntmps39
  go_upto_region 1 with fail
  generalize hW : w.alloc (.cells #[.int .i64 G.kd, .int .i64 G.w, .int .i64 G.h, .int .i64 G.m] 36) = w1
  have HK1 : Hid (Hb w1 w.heap.size 36 G) := by show Hb _ _ _ _; rw [← hW]; exact Hb.new w 36 G
  have HB1 : Hid (Below w.heap.size w w1) := by show Below _ _ _; rw [← hW]; exact box1' _ _
  clear hW
  obtain ⟨k0, k1, k2, k3⟩ := HK1.out.cells
  go_wp2_with (first
    | (go_at_call 54; refine (HMY.out _).mono ?_; rintro e w2 ⟨rfl, hb2⟩; have HB2 := Lib.hid (HB1.out.trans (hb2.mono HB1.out.size)); have HK2 := Lib.hid (HK1.out.later hb2); obtain ⟨m0, m1, m2, m3⟩ := HK2.out.cells; clear hb2)
    | (go_at_call 66; refine (HF.out _).mono ?_; rintro e w3 ⟨rfl, hb3⟩; have HB3 := Lib.hid (HB2.out.trans (hb3.mono HB2.out.size)); clear hb3)
    | (go_at_call 65; refine (HFT.out _ HB3.out).mono ?_; rintro e w4 ⟨rfl, hb4⟩; have HB4 := Lib.hid (HB3.out.trans (hb4.mono HB3.out.size)); clear hb4))
  go_returns
  exact rww_nil rfl HB4.out
set_option maxRecDepth 100000 in
set_option maxHeartbeats 4000000 in
theorem rwWrite_len (a : Option Addr) (n cap : Nat) (G : Hd.H) (hf : Hj.Fit G) (hm : Rw.May G) (hN9 : G.w * G.h ≤ 100000) (hN : G.w * G.h ≠ (n : Int)) (w : World) :
    Calls Try.prog 39 #[.slice a n cap, agH G] w (RwwR ([], 1) w) := by
  have hMY := rwMay_any G hf
  rw [decide_eq_true hm] at hMY
  have hmm := hm.m
  have hp0 : 0 ≤ G.w * G.h := Int.mul_nonneg (by omega) (by omega)
  unfold agH at hMY ⊢
  have HMY := Lib.hid hMY
  obtain ⟨N, hNN⟩ : ∃ N, G.w * G.h = N := ⟨_, rfl⟩
  rw [hNN] at hN9 hN hp0
  have gN : wrap64 (G.w * G.h) = N := by rw [hNN, IntWalk.wrap64_in] <;> omega
  have gn : ((n : Int) != N) = true := by simp; omega
  clear hMY hN hNN hm hf hN9 hp0
  go_enter Try.func39, Try.ntmps39
  go_upto_region 1 with fail
  generalize hW : w.alloc (.cells #[.int .i64 G.kd, .int .i64 G.w, .int .i64 G.h, .int .i64 G.m] 36) = w1
  have HK1 : Hid (Hb w1 w.heap.size 36 G) := by show Hb _ _ _ _; rw [← hW]; exact Hb.new w 36 G
  have HB1 : Hid (Below w.heap.size w w1) := by show Below _ _ _; rw [← hW]; exact box1' _ _
  clear hW
  obtain ⟨k0, k1, k2, k3⟩ := HK1.out.cells
  go_wp2_with (go_at_call 54; refine (HMY.out _).mono ?_; rintro e w2 ⟨rfl, hb2⟩; have HB2 := Lib.hid (HB1.out.trans (hb2.mono HB1.out.size)); have HK2 := Lib.hid (HK1.out.later hb2); obtain ⟨m0, m1, m2, m3⟩ := HK2.out.cells; clear hb2)
  go_returns
  exact rww_nil rfl HB2.out
end Go.Proofs.Ytflpocnbmpdhiaa

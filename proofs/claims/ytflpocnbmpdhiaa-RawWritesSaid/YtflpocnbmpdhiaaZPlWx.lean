/- A raster of digits written by the code, or refused, over any memory. Condition: the head may be, at most 80 by 3. -/
import Derived.Test.YtflpocnbmpdhiaaZPlWj
namespace Go.Proofs.Ytflpocnbmpdhiaa
open Go.RowKit Go.Shelf
set_option linter.unusedVariables false
theorem good_of_fits {p c m : Int} (hU : Pq.Px.U p) (h : Pq.Px.fitsV p c m = true) : Pq.GoodP p c m := by
  rcases Pq.Px.tri hU with ⟨a, b, d, h3⟩ | ⟨a, h1⟩ | h0
  · obtain ⟨k1, k2, k3, k4, -, -⟩ := Pq.Px.fits3_get h3 h
    exact .inl ⟨k1, a, b, d, h3, k2, k3, k4⟩
  · obtain ⟨k1, k2, -, -⟩ := Pq.Px.fits1_get h1 h
    exact .inr ⟨k1, a, h1, k2⟩
  · exact absurd h (by rw [Pq.Px.fitsV0 h0]; decide)
theorem fits_of_all {G : Hd.H} {l : List Int} (hU : ∀ p ∈ l, Pq.Px.U p) (h : Pl.fitAll G l = true) : Pl.Fits G l := fun p hp => by
  unfold Pl.fitAll at h
  rw [List.all_eq_true] at h
  exact good_of_fits (hU p hp) (h p hp)
set_option maxRecDepth 100000 in
set_option maxHeartbeats 4000000 in
/-- too few, or some that do not fit -/
theorem plWrite_no (a : Option Addr) (n cap : Nat) (l : List Int) (G : Hd.H) (hm : Pl.May G) (hU : ∀ p ∈ l, Pq.Px.U p) (N : Nat) (hN : G.w * G.h = (N : Int)) (hN9 : N ≤ 1000) (hn9 : n ≤ 1000) (h : n ≠ N ∨ Pl.fitAll G l = false) (w : World) (hs : SlK .u64 w a n l) :
    Calls Try.prog 43 #[.slice a n cap, agH G] w fun e w' => e = .returned (.tuple #[.string ⟨#[]⟩, .int .i64 1]) ∧ Below w.heap.size w w' := by
  have hmm := hm.m
  have hfm := hformat_any G hm.1
  have hft := fun W h => plFit_any a n cap l G (by omega) hU W h
  have hmy := plMay_any G (may_fit hm)
  rw [decide_eq_true hm] at hmy
  unfold Hj.fm agH at hfm
  unfold agH at hmy
  have HFM := Lib.hid hfm; have HMY := Lib.hid hmy
  have HS := Lib.hid hs
  have gN : wrap64 (G.w * G.h) = (N : Int) := by rw [hN, IntWalk.wrap64_in] <;> omega
  have HH := Lib.hid h
  clear hfm hmy hs hm h
  unfold agH
  refine calls_of_marks Try.func43 rfl ?_
  simp only [Try.ntmps43, List.size_toArray, List.length_cons, List.length_nil, Nat.reduceAdd, Nat.reduceSub, Array.replicate_succ, Array.replicate_zero, List.push_toArray, List.append_toArray, List.nil_append, List.cons_append]
  go_upto_region 1 with fail
  have h1 := box1' w (.cells #[.int .i64 G.kd, .int .i64 G.w, .int .i64 G.h, .int .i64 G.m] 36)
  have hk := Hb.new w 36 G
  generalize hW : w.alloc (.cells #[.int .i64 G.kd, .int .i64 G.w, .int .i64 G.h, .int .i64 G.m] 36) = w1 at h1 hk
  obtain ⟨kb, hkb⟩ : ∃ k, w.heap.size = k := ⟨_, rfl⟩
  rw [hkb] at hk ⊢
  have HB1 := Lib.hid h1; have HK1 := Lib.hid hk
  have HKB := Lib.hid hkb
  clear h1 hk hW hkb
  obtain ⟨k0, k1, k2, k3⟩ := HK1.out.cells
  go_wp2_with fail
  refine (HMY.out _).mono ?_
  rintro e w2 ⟨rfl, hb⟩
  have HK2 := Lib.hid (HK1.out.later hb); have HB2 := Lib.hid (HB1.out.trans (hb.mono HB1.out.size))
  clear k0 k1 k2 k3 hb HK1 HB1
  obtain ⟨k0, k1, k2, k3⟩ := HK2.out.cells
  by_cases hn : n = N
  · subst hn
    have hF : Pl.fitAll G l = false := by have := HH.out; simpa using this
    rw [hF] at hft
    have HFT := Lib.hid hft
    clear hF hft
    go_wp2_with fail
    refine (HFM.out _).mono ?_
    rintro e w3 ⟨rfl, hb⟩
    have HB3 := Lib.hid (HB2.out.trans (hb.mono HB2.out.size))
    clear k0 k1 k2 k3 hb HK2 HB2
    go_wp2_with fail
    refine (HFT.out _ (HS.out.below HB3.out)).mono ?_
    rintro e w4 ⟨rfl, hb⟩
    have HB4 := Lib.hid (HB3.out.trans (hb.mono HB3.out.size))
    clear hb
    go_wp2_with fail
    exact leaves_marks [] w4 (fun d hd => by cases hd) List.nodup_nil (fun w' => results_tmp2 rfl _ _ _) (fun w' a1 a2 a3 a4 a5 => ⟨by rfl, HB4.out.trans ⟨a1, a2, a3, by omega, fun k hk => a5 k (fun h => by cases h)⟩⟩)
  · have hne : ((n : Int) != (N : Int)) = true := by simp; omega
    clear hft
    go_wp2_with fail
    exact leaves_marks [] w2 (fun d hd => by cases hd) List.nodup_nil (fun w' => results_tmp2 rfl _ _ _) (fun w' a1 a2 a3 a4 a5 => ⟨by rfl, HB2.out.trans ⟨a1, a2, a3, by omega, fun k hk => a5 k (fun h => by cases h)⟩⟩)
theorem plWrite_any (pb po N cap : Nat) (l : List Int) (G : Hd.H) (hm : Pl.May G) (hU : ∀ p ∈ l, Pq.Px.U p) (gw gh : Nat) (hgw : G.w = (gw : Int)) (hgh : G.h = (gh : Int)) (hN : gw * gh = N) (hw80 : gw ≤ 80) (hh3 : gh ≤ 5) (hN240 : N ≤ 240) (hcap : N ≤ cap) (hcap2 : cap ≤ 9223372036854775807) (w : World) (hs : SlK .u64 w (some ⟨pb, po, none⟩) N l) :
    Calls Try.prog 43 #[.slice (some ⟨pb, po, none⟩) N cap, agH G] w fun e w' => e = .returned (Pl.wV G l) ∧ Below w.heap.size w w' := by
  by_cases h : Pl.fitAll G l = true
  · have hl := fits_of_all hU h
    unfold Pl.wV
    rw [if_pos h, hs.1]
    by_cases hk : G.kd = 1
    · exact plWrite_go pb po N cap l G hm hl gw gh 70 hgw hgh hN hw80 hh3 hN240 hcap hcap2 [] (by simp) (.inl ⟨hk, rfl, rfl⟩) w hs
    · exact plWrite_go pb po N cap l G hm hl gw gh 1 hgw hgh hN hw80 hh3 hN240 hcap hcap2 [32] (by simp) (.inr ⟨hk, rfl, rfl⟩) w hs
  · unfold Pl.wV
    rw [if_neg h]
    exact plWrite_no _ N cap l G hm hU N (by rw [hgw, hgh, ← hN]; simp) (by omega) (by omega) (.inr (by simpa using h)) w hs
end Go.Proofs.Ytflpocnbmpdhiaa

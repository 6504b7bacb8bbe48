/- DictFull: no more than 64 templates, and no more than 2^16 pixels of variants, are there: the walk of the law. No condition. -/
import Derived.Test.YtmlinoanpcbflaaZgAG
namespace Go.Proofs.Ytmlinoanpcbflaa
open Go.RowKit
set_option linter.unusedVariables false
open Dc
namespace Dc
/-- the format's two cells -/
def Fb (w : World) (b : Nat) : Prop := w.heap[b]? = some (.cells #[.int .i64 1, .int .i64 9] 25 (0, 0))
theorem Fb.cells {w : World} {b : Nat} (h : Fb w b) : w.cell? ⟨b, 0, none⟩ = some (.int .i64 1) ∧ w.cell? ⟨b, 1, none⟩ = some (.int .i64 9) := by
  have h' : w.heap[b]? = _ := h
  constructor <;> simp [World.cell?, h']
theorem Fb.lt {w : World} {b : Nat} (h : Fb w b) : b < w.heap.size := (Array.getElem?_eq_some_iff.1 h).1
theorem Fb.later {w w' : World} {b : Nat} (h : Fb w b) (hb : Below w.heap.size w w') : Fb w' b := (hb.block b h.lt).trans h
/-- what holds between two rounds -/
structure FX (w0 w : World) (F G : Nat → Prop) (s t fb : Nat) (ts us : List Tp) : Prop where
  d : DD w F G s t ts us
  f : Fb w fb
  nf : ¬ F fb
  ng : ¬ G fb
  below : Below w0.heap.size w0 w
  lo : ∀ k, F k → w0.heap.size ≤ k
  lo2 : ∀ k, G k → w0.heap.size ≤ k
theorem FX.later {w0 w w' : World} {F G : Nat → Prop} {s t fb : Nat} {ts us : List Tp} (x : FX w0 w F G s t fb ts us) (hb : Below w.heap.size w w') : FX w0 w' F G s t fb ts us :=
  ⟨x.d.later hb, x.f.later hb, x.nf, x.ng, bel_step x.below hb, x.lo, x.lo2⟩
theorem FX.first {w0 w w' : World} {F G F' : Nat → Prop} {s t fb : Nat} {ts us ts' : List Tp} (x : FX w0 w F G s t fb ts us) (hs : Sep F w w') (hd : DctP w' F' s ts') (hF : ∀ g, F' g → F g ∨ w.heap.size ≤ g) : FX w0 w' F' G s t fb ts' us := by
  refine ⟨x.d.first hs hd hF, (hs.block fb x.f.lt x.nf).trans x.f, fun e => ?_, x.ng, x.below.trans (hs.below x.below.size fun k hk hF => by have := x.lo k hF; omega), fun k hk => ?_, x.lo2⟩
  · rcases hF _ e with e | e
    · exact x.nf e
    · have := x.f.lt; omega
  · rcases hF k hk with e | e
    · exact x.lo k e
    · exact Nat.le_trans x.below.size e
theorem FX.swap {w0 w : World} {F G : Nat → Prop} {s t fb : Nat} {ts us : List Tp} (x : FX w0 w F G s t fb ts us) : FX w0 w G F t s fb us ts := ⟨⟨x.d.two, x.d.one, fun k h1 h2 => x.d.apart k h2 h1⟩, x.f, x.ng, x.nf, x.below, x.lo2, x.lo⟩
end Dc
set_option maxRecDepth 100000 in
set_option maxHeartbeats 16000000 in
theorem dictFull_walk (a0 : Int) (a1 : Int) (w : World) (w0 : (Lit.int .i64 a0).wf = true) (w1 : (Lit.int .i64 a1).wf = true) :
    Calls Try.prog 3 #[.int .i64 a0, .int .i64 a1] w fun e w' => e = .returned (.bool true) ∧ Below w.heap.size w w' := by
  have i0 := wfI w0
  have i1 := wfI w1
  obtain ⟨N, hN⟩ : ∃ N : Nat, 60 + Ar.around a0 7 = (N : Int) := ⟨(60 + Ar.around a0 7).toNat, by have := Ar.around_lt a0 7 (by omega); omega⟩
  obtain ⟨h, hh⟩ : ∃ h : Nat, 254 + Ar.around a1 5 = (h : Int) := ⟨(254 + Ar.around a1 5).toNat, by have := Ar.around_lt a1 5 (by omega); omega⟩
  have hN1 : 60 ≤ N ∧ N ≤ 66 := by have := Ar.around_lt a0 7 (by omega); omega
  have hh1 : 254 ≤ h ∧ h ≤ 258 := by have := Ar.around_lt a1 5 (by omega); omega
  have HA0 := Lib.hid (fun W => aroundOf a0 7 (by omega) (by omega) (by omega) (by omega) W)
  have HA1 := Lib.hid (fun W => aroundOf a1 5 (by omega) (by omega) (by omega) (by omega) W)
  have hz0 : Ar.around a0 7 = (N : Int) - 60 := by omega
  have hz1 : Ar.around a1 5 = (h : Int) - 254 := by omega
  simp only [hz0] at HA0
  simp only [hz1] at HA1
  have HNEW := Lib.hid (fun W => dNew_any W)
  obtain ⟨p0, hi, hz00, hz01, hz02⟩ := info_parts Try.info_dpx
  have hf2 := dc_box w (.cells #[.int .i64 1, .int .i64 9] 25)
  have hfb : Fb (w.alloc (.cells #[.int .i64 1, .int .i64 9] 25)) w.heap.size := World.alloc_heap_new w _
  obtain ⟨wa, hwa⟩ : ∃ wa, w.alloc (.cells #[.int .i64 1, .int .i64 9] 25) = wa := ⟨_, rfl⟩
  rw [hwa] at hf2 hfb
  have hza : wa.heap.size = w.heap.size + 1 := by rw [← hwa]; simp
  have HWA := Lib.hid hwa
  have HFA := Lib.hid hf2
  have HFB := Lib.hid hfb
  clear hN hh hz0 hz1 i0 i1 w0 w1 hwa hf2 hfb
  go_enter Try.func3, Try.ntmps3
  go_upto_region 3 with fail
  rw [HWA.out]
  go_upto_region 4 with (go_at_call 6; refine (HNEW.out _).mono ?_; rintro e w2 ⟨s1, F1, rfl, hD, hF, hb⟩; have HD1 := Lib.hid hD; have HF1 := Lib.hid hF; have HB1 := Lib.hid hb; clear hD hF hb)
  go_upto_region 5 with (go_at_call 6; refine (HNEW.out _).mono ?_; rintro e w3 ⟨s2, F2, rfl, hD, hF, hb⟩; have HD2 := Lib.hid hD; have HF2 := Lib.hid hF; have HB2 := Lib.hid hb; clear hD hF hb)
  have HX0 : Hid (FX w w3 F1 F2 s1 s2 w.heap.size (rep 0) []) := Lib.hid (by
    have hs1 := HB1.out.size
    have hs2 := HB2.out.size
    refine ⟨⟨HD1.out.later HB2.out, HD2.out, fun k h1 h2 => ?_⟩, (HFB.out.later HB1.out).later HB2.out, fun e => ?_, fun e => ?_, bel_step (bel_step HFA.out HB1.out) HB2.out, fun k hk => ?_, fun k hk => ?_⟩
    · have := HD1.out.lt h1; have := HF2.out k h2; omega
    · have := HF1.out _ e; omega
    · have := HF2.out _ e; omega
    · have := HF1.out k hk; omega
    · have := HF2.out k hk; omega)
  go_wp2
  go_loopg [9] N (fun gg s9 wr => ∃ (j : Nat) (F : Nat → Prop), j + gg = N ∧ s9 = .int .i64 j ∧ FX w wr F F2 s1 s2 w.heap.size (rep (min j 64)) [])
  case atStart => exact ⟨0, F1, by omega, rfl, HX0.out⟩
  case round =>
    obtain ⟨j, F, hj, rfl, hX⟩ := hrel
    have HX := Lib.hid hX
    clear hX HX0
    cases gk with
    | succ gg =>
      have hjN : j < N := by omega
      have hlt : (j : Int) < 60 + ((N : Int) - 60) := by omega
      obtain ⟨f0, f1⟩ := HX.out.f.cells
      have b1 := dc_box wr (.cells #[.int .u64 281474976710656] 23)
      have s1' := lit_slk (q := .u64) wr 23 [PX] #[.int .u64 281474976710656] rfl
      have hz1 : (wr.alloc (.cells #[.int .u64 281474976710656] 23)).heap.size = wr.heap.size + 1 := by simp
      obtain ⟨wb, hwb⟩ : ∃ wb, wr.alloc (.cells #[.int .u64 281474976710656] 23) = wb := ⟨_, rfl⟩
      rw [hwb] at b1 s1' hz1
      have b2 := dc_box wb (.cells #[.int .i64 0] 3)
      have s2' := lit_slk (q := .i64) wb 3 [0] #[.int .i64 0] rfl
      rw [hz1] at s2'
      have HXb := Lib.hid ((HX.out.later b1).later b2)
      have HWB := Lib.hid hwb
      have hnb : ¬ F wr.heap.size := fun e => by have := HX.out.d.one.lt e; omega
      by_cases h64 : j < 64
      · have hmj : min j 64 = j := by omega
        rw [hmj] at HXb
        have hA := one_any HXb.out.d.one (rep_ok (by omega)) 1 1 1 1 wr.heap.size (wr.heap.size + 1) 1 1 [PX] [0] Dc.one_px rfl (by omega) (Nat.le_refl _) (by omega) hnb (by rw [World.size_alloc]; omega) (s1'.below b2) s2' (rep_add h64)
        rw [if_pos rfl, rep_len] at hA
        have HAc := Lib.hid hA
        have hltI : (j : Int) < 64 := by omega
        clear hA b1 b2 s1' s2' hwb hnb
        go_upto_region 11 with (first
          | (go_at_call 7; refine (HA0.out _).mono ?_; rintro e w5 ⟨rfl, rfl⟩)
          | (rw [HWB.out]; go_at_call 8; refine HAc.out.mono ?_; rintro e w5 ⟨rfl, F5, hd5, hs5, hf5⟩; rw [if_pos rfl, ris_0] at hd5; have HX5 := Lib.hid (HXb.out.first hs5 hd5 hf5); clear hd5 hs5 hf5))
        go_wp2
        go_roundg gg
        case measure => omega
        case rel =>
          refine ⟨j + 1, F5, by omega, by go_num, ?_⟩
          have hmj2 : min (j + 1) 64 = j + 1 := by omega
          rw [hmj2, rep_succ]
          exact HX5.out
      · have hmj : min j 64 = 64 := by omega
        rw [hmj] at HXb
        have hA := one_any HXb.out.d.one (rep_ok (by omega)) 1 1 1 1 wr.heap.size (wr.heap.size + 1) 1 1 [PX] [0] Dc.one_px rfl (by omega) (Nat.le_refl _) (by omega) hnb (by rw [World.size_alloc]; omega) (s1'.below b2) s2' rep_full
        rw [if_neg (by decide)] at hA
        have HAc := Lib.hid hA
        have hltI : ¬ (j : Int) < 64 := by omega
        clear hA b1 b2 s1' s2' hwb hnb
        go_upto_region 11 with (first
          | (go_at_call 7; refine (HA0.out _).mono ?_; rintro e w5 ⟨rfl, rfl⟩)
          | (rw [HWB.out]; go_at_call 8; refine HAc.out.mono ?_; rintro e w5 ⟨rfl, F5, hd5, hs5, hf5⟩; rw [if_neg (by decide)] at hd5; have HX5 := Lib.hid (HXb.out.first hs5 hd5 hf5); clear hd5 hs5 hf5))
        go_wp2
        go_roundg gg
        case measure => omega
        case rel =>
          refine ⟨j + 1, F5, by omega, by go_num, ?_⟩
          have hmj2 : min (j + 1) 64 = 64 := by omega
          rw [hmj2]
          exact HX5.out
    | zero =>
      obtain rfl : j = N := by omega
      have hlt : ¬ (j : Int) < 60 + ((j : Int) - 60) := by omega
      obtain ⟨k, hk⟩ : ∃ k, min j 64 = k + 1 := ⟨min j 64 - 1, by omega⟩
      rw [hk] at HX
      have hk9 : k + 1 ≤ 64 := by omega
      go_upto_region 13 with (go_at_call 7; refine (HA0.out _).mono ?_; rintro e w5 ⟨rfl, rfl⟩)
      go_upto_region 14 with (go_at_call 7; refine (HA1.out _).mono ?_; rintro e w5 ⟨rfl, rfl⟩)
      rw [show (254 : Int) + ((h : Int) - 254) = (h : Int) by omega]
      obtain ⟨V, rfl⟩ : ∃ V, V = wr := ⟨wr, rfl⟩
      obtain ⟨M, hM⟩ : ∃ M : Nat, 256 * h = M := ⟨_, rfl⟩
      have hmul : (256 : Int) * (h : Int) = (M : Int) := by omega
      have hM9 : M ≤ 66048 := by omega
      have HMM := Lib.hid hM
      clear hM
      go_upto_region 15 with (at_make; refine wpList_make_full _ rfl _ _ 32 rfl V.heap.size 23 p0 (.int .u64 0) 1 Try.underlying32 hi hz00 hz01 .i64 .i64 (M : Int) (M : Int) M rfl rfl rfl rfl (by rw [hz02]; omega) (by unfold maxLen; omega) (Nat.le_refl _) ?_; intro w4 hown hgrow; have HOWN := Lib.hid hown; have HG4 := Lib.hid hgrow; clear hown hgrow)
      obtain ⟨L0, hL0, hLn⟩ := made_row HOWN.out
      have hB4 : Below V.heap.size V w4 := (Below.refl _ _).grown HG4.out (Nat.le_refl _) (fun j ej => by cases ej)
      have HX4 := Lib.hid (HX.out.later hB4)
      have HB4 := Lib.hid hB4
      have HL0 := Lib.hid hL0
      have HLn := Lib.hid hLn
      have hbl := hL0.lt
      clear hL0 hLn hB4 HOWN
      go_wp2
      go_loopg [14] M (fun gg s wq => ∃ (i : Nat) (L : List Int), i + gg = M ∧ s = .int .i64 i ∧ OwnG 0 wq V.heap.size L ∧ Hid (L.length = M ∧ Upto i L) ∧ Sep (fun k => k = V.heap.size) w4 wq)
      case atStart => exact ⟨0, L0, by omega, rfl, HL0.out, ⟨HLn.out, fun i hi => absurd hi (Nat.not_lt_zero _)⟩, Sep.refl _ _⟩
      case round =>
        obtain ⟨i, L, hiM, rfl, hL, hU, hS⟩ := hrel
        have HL := Lib.hid hL
        have HS := Lib.hid hS
        clear hL hS
        cases gk with
        | succ gg =>
          have hin : i < M := by omega
          have hlt2 : (i : Int) < (M : Int) := by omega
          have hc := HL.out.cell (i := i) (by rw [hU.out.1]; exact hin)
          have hf := HL.out.fr i
          obtain ⟨z, hz⟩ : ∃ z, L.getD i 0 = z := ⟨_, rfl⟩
          rw [hz] at hc
          clear hz
          have HP := Lib.hid (HL.out.put i PX)
          unfold PX at HP
          go_wp2
          go_roundg gg
          case measure => omega
          case rel =>
            refine ⟨i + 1, L.set i 281474976710656, by omega, by go_num, HP.out, ⟨by rw [List.length_set]; exact hU.out.1, hU.out.2.succ (by rw [hU.out.1]; exact hin)⟩, HS.out.trans (Sep.setCell (Z := fun k => k = V.heap.size) _ rfl _)⟩
        | zero =>
          obtain rfl : i = M := by omega
          have HONE : Hid (One (256 * h) L) := Lib.hid (by rw [HMM.out]; exact hU.out.2.one hU.out.1)
          have hlt2 : ¬ (i : Int) < (i : Int) := by omega
          have hnF : ∀ k, F k → k ≠ V.heap.size := fun k hk e => by have := HX.out.d.one.lt hk; omega
          have hnG : ∀ k, F2 k → k ≠ V.heap.size := fun k hk e => by have := HX.out.d.two.lt hk; omega
          have HXq : Hid (FX w wr F F2 s1 s2 w.heap.size (rep (k + 1)) []) := Lib.hid (by
            have hX4 := HX4.out
            refine ⟨⟨hX4.d.one.of_blocks fun g hg => HS.out.block g (hX4.d.one.lt hg) (hnF g hg), hX4.d.two.of_blocks fun g hg => HS.out.block g (hX4.d.two.lt hg) (hnG g hg), hX4.d.apart⟩, (HS.out.block _ hX4.f.lt (fun e => by have := HX.out.f.lt; omega)).trans hX4.f, hX4.nf, hX4.ng, hX4.below.trans (HS.out.below hX4.below.size fun k hk e => by have := HX.out.below.size; omega), hX4.lo, hX4.lo2⟩)
          have hnb : ¬ F2 V.heap.size := fun e => hnG _ e rfl
          have hpx := HL.out
          obtain ⟨f0, f1⟩ := HXq.out.f.cells
          have hbz : V.heap.size < wr.heap.size := HL.out.lt
          -- the great one
          have b1 := dc_box wr (.cells #[.int .i64 0, .int .i64 2] 3)
          have sl1 := lit_slk (q := .i64) wr 3 [0, 2] #[.int .i64 0, .int .i64 2] rfl
          have HXa := Lib.hid (HXq.out.later b1).swap
          have hA := one_any HXa.out.d.one okD_nil 256 h i i V.heap.size wr.heap.size 2 2 L [0, 2] (by rw [← HMM.out]; exact HONE.out) rfl (by omega) (Nat.le_refl _) (by omega) hnb (by rw [World.size_alloc]; omega) ((ownG_len HL.out hU.out.1).below b1) sl1 (big_add HONE.out (by omega) (by omega))
          have HPQ := Lib.hid (HL.out.later b1)
          have HLV := Lib.hid (fun W => dlives_any W)
          clear b1 sl1 hpx
          by_cases h256 : h ≤ 256
          · rw [if_pos h256, if_pos rfl] at hA
            have HAc := Lib.hid hA
            have hle : (h : Int) ≤ 256 := by omega
            clear hA
            go_upto_region 20 with (go_at_call 8; refine HAc.out.mono ?_; rintro e w6 ⟨rfl, F6, hd6, hs6, hf6⟩; rw [if_pos rfl, ris02, List.nil_append] at hd6; have HX6 := Lib.hid (HXa.out.first hs6 hd6 hf6); clear hd6 hs6 hf6)
            obtain ⟨f0, f1⟩ := HX6.out.f.cells
            have b1 := dc_box w6 (.cells #[.int .u64 281474976710656] 23)
            have sp := lit_slk (q := .u64) w6 23 [PX] #[.int .u64 281474976710656] rfl
            have hz1 : (w6.alloc (.cells #[.int .u64 281474976710656] 23)).heap.size = w6.heap.size + 1 := by simp
            obtain ⟨wb, hwb⟩ : ∃ wb, w6.alloc (.cells #[.int .u64 281474976710656] 23) = wb := ⟨_, rfl⟩
            rw [hwb] at b1 sp hz1
            have b2 := dc_box wb (.cells #[.int .i64 0] 3)
            have si := lit_slk (q := .i64) wb 3 [0] #[.int .i64 0] rfl
            rw [hz1] at si
            have HXb := Lib.hid ((HX6.out.later b1).later b2)
            have HWB := Lib.hid hwb
            have hnb6 : ¬ F6 w6.heap.size := fun e => by have := HX6.out.d.one.lt e; omega
            have hA2 := one_any HXb.out.d.one (big_ok HONE.out h256) 1 1 1 1 w6.heap.size (w6.heap.size + 1) 1 1 [PX] [0] Dc.one_px rfl (by omega) (Nat.le_refl _) (by omega) hnb6 (by rw [World.size_alloc]; omega) (sp.below b2) si (big_next HONE.out h256)
            have HA2c := Lib.hid hA2
            have HVR := Lib.hid (fun W F' (hD : DctP W F' s1 (rep (k + 1))) => dVariants_any hD)
            simp only [rep_imgs, List.length_singleton] at HVR
            have HTM := Lib.hid (fun W F' (hD : DctP W F' s1 (rep (k + 1))) => dTemplates_any hD)
            simp only [rep_len] at HTM
            have HOW := Lib.hid (fun W F' (hD : DctP W F' s1 (rep (k + 1))) => dOwners_any hD (rep_ok hk9) 0)
            unfold OwnR at HOW
            simp only [rep_ownV] at HOW
            clear hA2 b1 b2 sp si hwb hnb6
            by_cases he : h = 256
            · subst he
              rw [if_pos rfl, if_neg (by decide)] at HA2c
              have hc256 : ((256 : Nat) : Int) = 256 := by omega
              go_upto_region 21 with (rw [HWB.out]; go_at_call 8; refine HA2c.out.mono ?_; rintro e w7 ⟨rfl, F7, hd7, hs7, hf7⟩; have HX7 := Lib.hid (HXb.out.first hs7 hd7 hf7).swap; clear hd7 hs7 hf7)
              go_wp2_with (first
                | (go_at_call 9; refine (HVR.out _ _ HX7.out.d.one).mono ?_; rintro e w8 ⟨rfl, rfl⟩)
                | (go_at_call 10; refine (HOW.out _ _ HX7.out.d.one).mono ?_; rintro e w8 ⟨oa, oc, rfl, _, hb8⟩; have HB8 := Lib.hid hb8; clear hb8)
                | (go_at_call 11; refine (HTM.out _ _ (HX7.out.d.one.later HB8.out)).mono ?_; rintro e w9 ⟨rfl, rfl⟩)
                | (go_at_call 12; refine (HLV.out _).mono ?_; rintro e w10 ⟨rfl, hb10⟩; have HB10 := Lib.hid (bel_step HB8.out hb10); clear hb10))
              go_ret
              exact ⟨by first | rfl | (show Ending.returned (Value.bool ((h : Int) != 256)) = _; rw [show ((h : Int) != 256) = true from by rw [bne_iff_ne]; omega]) | (show Ending.returned (Value.bool (!decide ((h : Int) ≤ 256) && (h : Int) != 256)) = _; rw [show ((h : Int) != 256) = true from by rw [bne_iff_ne]; omega, decide_eq_false (show ¬ (h : Int) ≤ 256 by omega)]; rfl), bel_step HX7.out.below HB10.out⟩
            · rw [if_neg he, if_pos rfl] at HA2c
              have hc256 : ¬ (h : Int) = 256 := by omega
              go_upto_region 21 with (rw [HWB.out]; go_at_call 8; refine HA2c.out.mono ?_; rintro e w7 ⟨rfl, F7, hd7, hs7, hf7⟩; have HX7 := Lib.hid (HXb.out.first hs7 hd7 hf7).swap; clear hd7 hs7 hf7)
              go_wp2_with (first
                | (go_at_call 9; refine (HVR.out _ _ HX7.out.d.one).mono ?_; rintro e w8 ⟨rfl, rfl⟩)
                | (go_at_call 10; refine (HOW.out _ _ HX7.out.d.one).mono ?_; rintro e w8 ⟨oa, oc, rfl, _, hb8⟩; have HB8 := Lib.hid hb8; clear hb8)
                | (go_at_call 11; refine (HTM.out _ _ (HX7.out.d.one.later HB8.out)).mono ?_; rintro e w9 ⟨rfl, rfl⟩)
                | (go_at_call 12; refine (HLV.out _).mono ?_; rintro e w10 ⟨rfl, hb10⟩; have HB10 := Lib.hid (bel_step HB8.out hb10); clear hb10))
              go_ret
              exact ⟨by first | rfl | (show Ending.returned (Value.bool ((h : Int) != 256)) = _; rw [show ((h : Int) != 256) = true from by rw [bne_iff_ne]; omega]) | (show Ending.returned (Value.bool (!decide ((h : Int) ≤ 256) && (h : Int) != 256)) = _; rw [show ((h : Int) != 256) = true from by rw [bne_iff_ne]; omega, decide_eq_false (show ¬ (h : Int) ≤ 256 by omega)]; rfl), bel_step HX7.out.below HB10.out⟩
          · rw [if_neg h256, if_neg (by decide)] at hA
            have HAc := Lib.hid hA
            have hle : ¬ (h : Int) ≤ 256 := by omega
            clear hA
            go_upto_region 20 with (go_at_call 8; refine HAc.out.mono ?_; rintro e w6 ⟨rfl, F6, hd6, hs6, hf6⟩; rw [if_neg (by decide)] at hd6; have HX6 := Lib.hid (HXa.out.first hs6 hd6 hf6); clear hd6 hs6 hf6)
            obtain ⟨f0, f1⟩ := HX6.out.f.cells
            have b1 := dc_box w6 (.cells #[.int .u64 281474976710656] 23)
            have sp := lit_slk (q := .u64) w6 23 [PX] #[.int .u64 281474976710656] rfl
            have hz1 : (w6.alloc (.cells #[.int .u64 281474976710656] 23)).heap.size = w6.heap.size + 1 := by simp
            obtain ⟨wb, hwb⟩ : ∃ wb, w6.alloc (.cells #[.int .u64 281474976710656] 23) = wb := ⟨_, rfl⟩
            rw [hwb] at b1 sp hz1
            have b2 := dc_box wb (.cells #[.int .i64 0] 3)
            have si := lit_slk (q := .i64) wb 3 [0] #[.int .i64 0] rfl
            rw [hz1] at si
            have HXb := Lib.hid ((HX6.out.later b1).later b2)
            have HWB := Lib.hid hwb
            have hnb6 : ¬ F6 w6.heap.size := fun e => by have := HX6.out.d.one.lt e; omega
            have hA2 := one_any HXb.out.d.one okD_nil 1 1 1 1 w6.heap.size (w6.heap.size + 1) 1 1 [PX] [0] Dc.one_px rfl (by omega) (Nat.le_refl _) (by omega) hnb6 (by rw [World.size_alloc]; omega) (sp.below b2) si nil_next
            have HA2c := Lib.hid hA2
            have HVR := Lib.hid (fun W F' (hD : DctP W F' s1 (rep (k + 1))) => dVariants_any hD)
            simp only [rep_imgs, List.length_singleton] at HVR
            have HTM := Lib.hid (fun W F' (hD : DctP W F' s1 (rep (k + 1))) => dTemplates_any hD)
            simp only [rep_len] at HTM
            have HOW := Lib.hid (fun W F' (hD : DctP W F' s1 (rep (k + 1))) => dOwners_any hD (rep_ok hk9) 0)
            unfold OwnR at HOW
            simp only [rep_ownV] at HOW
            clear hA2 b1 b2 sp si hwb hnb6
            rw [if_pos rfl] at HA2c
            have hc256 : ¬ (h : Int) = 256 := by omega
            go_upto_region 21 with (rw [HWB.out]; go_at_call 8; refine HA2c.out.mono ?_; rintro e w7 ⟨rfl, F7, hd7, hs7, hf7⟩; have HX7 := Lib.hid (HXb.out.first hs7 hd7 hf7).swap; clear hd7 hs7 hf7)
            go_wp2_with (first
              | (go_at_call 9; refine (HVR.out _ _ HX7.out.d.one).mono ?_; rintro e w8 ⟨rfl, rfl⟩)
              | (go_at_call 10; refine (HOW.out _ _ HX7.out.d.one).mono ?_; rintro e w8 ⟨oa, oc, rfl, _, hb8⟩; have HB8 := Lib.hid hb8; clear hb8)
              | (go_at_call 11; refine (HTM.out _ _ (HX7.out.d.one.later HB8.out)).mono ?_; rintro e w9 ⟨rfl, rfl⟩)
              | (go_at_call 12; refine (HLV.out _).mono ?_; rintro e w10 ⟨rfl, hb10⟩; have HB10 := Lib.hid (bel_step HB8.out hb10); clear hb10))
            go_ret
            exact ⟨by first | rfl | (show Ending.returned (Value.bool ((h : Int) != 256)) = _; rw [show ((h : Int) != 256) = true from by rw [bne_iff_ne]; omega]) | (show Ending.returned (Value.bool (!decide ((h : Int) ≤ 256) && (h : Int) != 256)) = _; rw [show ((h : Int) != 256) = true from by rw [bne_iff_ne]; omega, decide_eq_false (show ¬ (h : Int) ≤ 256 by omega)]; rfl), bel_step HX7.out.below HB10.out⟩
end Go.Proofs.Ytmlinoanpcbflaa

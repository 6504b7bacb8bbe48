/- PixPacks: the pixel of samples is the document's, or refused: the walk of the law. No condition. -/
import Derived.Test.YtdlmcdeddlccpaaRow
import Derived.Test.YtdlmcdeddlccpaaPixC
namespace Go.Proofs.Ytdlmcdeddlccpaa
open Go.RowKit
set_option linter.unusedVariables false

set_option maxHeartbeats 2000000 in
theorem pixPacks_few (a : Option Addr) (n cap : Nat) (zs : List Int) (w : World) (hn : n ≤ 4) (hw : ∀ z ∈ zs, Px.I z) (hs : Sl w a n zs) :
    Calls Try.prog 3 #[.slice a n cap] w fun e w' => e = .returned (.bool true) ∧ Below w.heap.size w w' := by
  have HS := Lib.hid hs
  have h4 : (n : Int) ≤ 4 := by omega
  by_cases h0 : n = 0
  · subst h0
    go_enter Try.func3, Try.ntmps3
    go_wp2_with fail
    refine (pack_any _ _ _ zs _ (by omega) HS.out).mono ?_
    rintro e w1 ⟨rfl, rfl⟩
    go_wp2_with fail
    refine (refPack_any _ _ _ zs _ (by omega) HS.out).mono ?_
    rintro e w1 ⟨rfl, rfl⟩
    go_wp2_with fail
    refine (lives_any _).mono ?_
    rintro e w1 ⟨rfl, hb⟩
    go_wp2_with fail
    go_ret
    exact ⟨rfl, hb⟩
  · obtain ⟨hz, hc⟩ := hs
    rcases hc with hc | ⟨b, o, rfl, hc⟩
    · omega
    have c0 := hc 0 (by omega)
    obtain ⟨z, hzz⟩ : ∃ z, zs.getD 0 0 = z := ⟨_, rfl⟩
    have hI : Px.I z := by
      rw [← hzz]
      cases zs with
      | nil => first | (simp at hz; done) | (simp at hz; omega)
      | cons y ys => exact hw y (by simp)
    rw [hzz, Nat.add_zero] at c0
    clear hz hc hzz hw
    have l0 := Px.around_lt z 65536 (by omega)
    obtain ⟨v, hv⟩ : ∃ v, Px.aroundV z 65536 = v := ⟨_, rfl⟩
    rw [hv] at l0
    obtain ⟨l0, l1⟩ := l0
    have HV := Lib.hid hv; clear hv
    have X := Lib.hid (Px.packV1 (x := v) l0 (by omega))
    have I1 : Px.Is1 (281474976710656 + v) v := ⟨rfl, l0, by omega⟩
    have H1 := Lib.hid I1; clear I1
    have Y := Lib.hid (show Px.mayV (281474976710656 + v) = true by unfold Px.mayV; rw [Px.smp1 H1.out]; rfl)
    have k0 : ((n : Int) == 0) = false := by simp; omega
    have hpos : (0 : Int) < n := by omega
    clear h0
    go_enter Try.func3, Try.ntmps3
    go_wp2_with fail
    refine (pack_any _ _ _ zs _ (by omega) HS.out).mono ?_
    rintro e w1 ⟨rfl, rfl⟩
    go_wp2_with fail
    refine (refPack_any _ _ _ zs _ (by omega) HS.out).mono ?_
    rintro e w1 ⟨rfl, rfl⟩
    go_wp2_with fail
    refine (around_any _ _ hI (by omega) (by omega) _).mono ?_
    rw [HV.out]
    rintro e w1 ⟨rfl, rfl⟩
    go_wp2_with fail
    refine (pack_any _ _ _ [v] _ (by omega) (sl1 (by simp [go_sem]))).mono ?_
    rw [X.out]
    rintro e w1 ⟨rfl, hw1⟩
    subst hw1
    go_wp2_with fail
    refine (unpack1 _ v H1.out _).mono ?_
    rintro e w1 ⟨g, cp, rfl, ⟨hg0, hg1, c1, f1⟩, hb1⟩
    have hb := box_below w _ _ hb1
    clear hb1
    go_wp2_with fail
    refine (same_any _ _ _ _ _ _ [v] [v] _ (by omega) (sl1 (off := 0) (by rw [World.cell?_alloc_past _ _ _ hg1]; exact c1)) (sl1 (by simp [go_sem]))).mono ?_
    rw [decide_eq_true rfl]
    rintro e w2 ⟨rfl, hb2⟩
    have hb3 : Below w.heap.size w w2 := (hb.alloc hb.size _).trans (hb2.mono (by have := hb.size; simp; omega))
    clear hb2
    go_wp2_with fail
    refine (may_any _ (isU1 H1.out) _).mono ?_
    rw [Y.out]
    rintro e w4 ⟨rfl, hb4⟩
    have hb5 := hb3.trans (hb4.mono hb3.size)
    clear hb4
    go_wp2_with fail
    refine (lives_any _).mono ?_
    rintro e w6 ⟨rfl, hb6⟩
    have hb7 := hb5.trans (hb6.mono hb5.size)
    clear hb6
    go_wp2_with fail
    go_ret
    exact ⟨rfl, hb7⟩

set_option maxHeartbeats 2000000 in
theorem pixPacks_many (a : Option Addr) (n cap : Nat) (zs : List Int) (w : World) (hn : 4 < n) (hcap : n ≤ cap) (hm : cap ≤ 9223372036854775807) (hw : ∀ z ∈ zs, Px.I z) (hs : Sl w a 4 zs) :
    Calls Try.prog 3 #[.slice a n cap] w fun e w' => e = .returned (.bool true) ∧ Below w.heap.size w w' := by
  have HS := Lib.hid hs
  · obtain ⟨hz, hc⟩ := hs
    rcases hc with hc | ⟨b, o, rfl, hc⟩
    · omega
    have c0 := hc 0 (by omega)
    obtain ⟨z, hzz⟩ : ∃ z, zs.getD 0 0 = z := ⟨_, rfl⟩
    have hI : Px.I z := by
      rw [← hzz]
      cases zs with
      | nil => first | (simp at hz; done) | (simp at hz; omega)
      | cons y ys => exact hw y (by simp)
    rw [hzz, Nat.add_zero] at c0
    clear hz hc hzz hw
    have l0 := Px.around_lt z 65536 (by omega)
    obtain ⟨v, hv⟩ : ∃ v, Px.aroundV z 65536 = v := ⟨_, rfl⟩
    rw [hv] at l0
    obtain ⟨l0, l1⟩ := l0
    have HV := Lib.hid hv; clear hv
    have X := Lib.hid (Px.packV1 (x := v) l0 (by omega))
    have I1 : Px.Is1 (281474976710656 + v) v := ⟨rfl, l0, by omega⟩
    have H1 := Lib.hid I1; clear I1
    have Y := Lib.hid (show Px.mayV (281474976710656 + v) = true by unfold Px.mayV; rw [Px.smp1 H1.out]; rfl)
    have k4 : (4 : Int) < n := by omega
    have k5 : (4 : Int) ≤ cap := by omega
    go_enter Try.func3, Try.ntmps3
    go_wp2_with fail
    refine (pack_any _ _ _ zs _ (by omega) HS.out).mono ?_
    rintro e w1 ⟨rfl, rfl⟩
    go_wp2_with fail
    refine (refPack_any _ _ _ zs _ (by omega) HS.out).mono ?_
    rintro e w1 ⟨rfl, rfl⟩
    go_wp2_with fail
    refine (around_any _ _ hI (by omega) (by omega) _).mono ?_
    rw [HV.out]
    rintro e w1 ⟨rfl, rfl⟩
    go_wp2_with fail
    refine (pack_any _ _ _ [v] _ (by omega) (sl1 (by simp [go_sem]))).mono ?_
    rw [X.out]
    rintro e w1 ⟨rfl, hw1⟩
    subst hw1
    go_wp2_with fail
    refine (unpack1 _ v H1.out _).mono ?_
    rintro e w1 ⟨g, cp, rfl, ⟨hg0, hg1, c1, f1⟩, hb1⟩
    have hb := box_below w _ _ hb1
    clear hb1
    go_wp2_with fail
    refine (same_any _ _ _ _ _ _ [v] [v] _ (by omega) (sl1 (off := 0) (by rw [World.cell?_alloc_past _ _ _ hg1]; exact c1)) (sl1 (by simp [go_sem]))).mono ?_
    rw [decide_eq_true rfl]
    rintro e w2 ⟨rfl, hb2⟩
    have hb3 : Below w.heap.size w w2 := (hb.alloc hb.size _).trans (hb2.mono (by have := hb.size; simp; omega))
    clear hb2
    go_wp2_with fail
    refine (may_any _ (isU1 H1.out) _).mono ?_
    rw [Y.out]
    rintro e w4 ⟨rfl, hb4⟩
    have hb5 := hb3.trans (hb4.mono hb3.size)
    clear hb4
    go_wp2_with fail
    refine (lives_any _).mono ?_
    rintro e w6 ⟨rfl, hb6⟩
    have hb7 := hb5.trans (hb6.mono hb5.size)
    clear hb6
    go_wp2_with fail
    go_ret
    exact ⟨rfl, hb7⟩

theorem pixPacks_walk (a0 : Option Addr) (len0 cap0 : Nat) (z0 : List Int) (w : World) (w0 : IsRow .i64 w a0 len0 cap0 z0) :
    Calls Try.prog 3 #[.slice a0 len0 cap0] w fun e w' => e = .returned (.bool true) ∧ Below w.heap.size w w' := by
  have hl := isrow_len w0
  have hwf := isrow_wf w0
  by_cases h : len0 ≤ 4
  · exact pixPacks_few a0 len0 cap0 (z0.take len0) w h (fun z hz => hwf z (List.mem_of_mem_take hz)) (isrow_take w0 len0 (Nat.le_refl _))
  · exact pixPacks_many a0 len0 cap0 (z0.take 4) w (by omega) (by omega) (by omega) (fun z hz => hwf z (List.mem_of_mem_take hz)) (isrow_take w0 4 (by omega))
end Go.Proofs.Ytdlmcdeddlccpaa

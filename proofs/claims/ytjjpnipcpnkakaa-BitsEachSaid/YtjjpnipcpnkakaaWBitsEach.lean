/- BitsEach: each bit of bytes is the document's, and there is none beside: the walk of the law. No condition. -/
import Derived.Test.YtjjpnipcpnkakaaBtS
import Derived.Deep.LoopGhost
namespace Go.Proofs.Ytjjpnipcpnkakaa
open Go.RowKit Go.Shelf
set_option linter.unusedVariables false
set_option maxRecDepth 100000 in
set_option maxHeartbeats 8000000 in
theorem bitsEach_walk (a0 : Option Addr) (len0 cap0 : Nat) (z0 : List Int) (a1 : Int) (w : World) (w0 : IsRow .u8 w a0 len0 cap0 z0) (w1 : (Lit.int .i64 a1).wf = true) :
    Calls Try.prog 9 #[.slice a0 len0 cap0, .int .i64 a1] w fun e w' => e = .returned (.bool true) ∧ Below w.heap.size w w' := by
  have h1 := Lib.hid (wfI w1)
  obtain ⟨l1, l2, l3, l4⟩ := isrow_len w0
  have hx1 : max (1 : Int) 0 = 1 := by decide
  have hx2 : max (-1 : Int) 0 = 0 := by decide
  obtain ⟨m, hmm⟩ : ∃ m, ((len0 ≤ 12 ∧ m = len0) ∨ (12 < len0 ∧ m = 12)) := ⟨min len0 12, by omega⟩
  have hm1 : m ≤ len0 := by omega
  have hm12 : m ≤ 12 := by omega
  have HS := Lib.hid (Bt.bs_in w0 m hm1)
  generalize z0.take m = zs at HS
  clear w0 w1 l2 hm1
  rcases hmm with ⟨h, rfl⟩ | ⟨h, rfl⟩
  · have kd : min (m : Int) 12 = m := by omega
    clear h
    go_enter Try.func9, Try.ntmps9
    go_wp2
    go_loopg [5] (8 * m + 2) (fun g s5 wr => ∃ j : Nat, j + g = 8 * m + 2 ∧ s5 = .int .i64 ((j : Int) - 1) ∧ Below w.heap.size w wr)
    case atStart => exact ⟨0, by omega, rfl, Below.refl _ _⟩
    case round =>
      obtain ⟨j, hj, rfl, hB⟩ := hrel
      obtain ⟨I, hI⟩ : ∃ I, (j : Int) - 1 = I := ⟨_, rfl⟩
      have hI1 : -1 ≤ I := by omega
      have hI2 : I ≤ 8 * (m : Nat) + 1 := by omega
      have HI := Lib.hid hI
      rw [hI]
      cases gk with
      | zero =>
        have hlt : ¬ I ≤ 8 * ((m : Nat) : Int) := by omega
        obtain ⟨v, hv⟩ : ∃ v, Bt.bitV zs a1 = v := ⟨_, rfl⟩
        have hvb := Bt.bitV_le zs a1
        rw [hv] at hvb
        obtain ⟨v0, v1⟩ := hvb
        have HV := Lib.hid hv
        clear hI hv hj
        by_cases hp : 0 ≤ v
        · obtain rfl | rfl : v = 0 ∨ v = 1 := by omega
          all_goals
           go_wp2_with (first
             | (go_at_call 57; refine (Bt.bit_pos _ _ _ zs _ _ h1.out _ (HS.out.below hB) HV.out (by omega)).mono ?_; rintro e w2 ⟨rfl, hb⟩; have hB2 := bel_step hB hb; clear hb)
             | (go_at_call 58; refine (Bt.refBit_t _ _ _ zs _ _ h1.out _ (HS.out.below hB2) HV.out).mono ?_; rintro e w3 ⟨rfl, rfl⟩)
             | (go_at_call 53; refine (Bt.lives7_any _).mono ?_; rintro e w4 ⟨rfl, hb4⟩))
           go_ret
           exact ⟨rfl, bel_step hB2 hb4⟩
        · obtain rfl : v = -1 := by omega
          go_wp2_with (first
            | (go_at_call 57; refine (Bt.bit_neg _ _ _ zs _ _ h1.out _ (HS.out.below hB) HV.out (by omega)).mono ?_; rintro e w2 ⟨rfl, hb⟩; have hB2 := bel_step hB hb; clear hb)
            | (go_at_call 58; refine (Bt.refBit_t _ _ _ zs _ _ h1.out _ (HS.out.below hB2) HV.out).mono ?_; rintro e w3 ⟨rfl, rfl⟩)
            | (go_at_call 53; refine (Bt.lives7_any _).mono ?_; rintro e w4 ⟨rfl, hb4⟩))
          go_ret
          exact ⟨rfl, bel_step hB2 hb4⟩
      | succ g =>
        have hlt : I ≤ 8 * ((m : Nat) : Int) := by omega
        obtain ⟨v, hv⟩ : ∃ v, Bt.bitV zs I = v := ⟨_, rfl⟩
        have hvb := Bt.bitV_le zs I
        rw [hv] at hvb
        obtain ⟨v0, v1⟩ := hvb
        have HV := Lib.hid hv
        clear hI hv
        by_cases hp : 0 ≤ v
        · obtain rfl | rfl : v = 0 ∨ v = 1 := by omega
          all_goals
           go_wp2_with (first
             | (go_at_call 57; refine (Bt.bit_pos _ _ _ zs _ _ (by omega) _ (HS.out.below hB) HV.out (by omega)).mono ?_; rintro e w2 ⟨rfl, hb⟩; have hB2 := bel_step hB hb; clear hb)
             | (go_at_call 58; refine (Bt.refBit_t _ _ _ zs _ _ (by omega) _ (HS.out.below hB2) HV.out).mono ?_; rintro e w3 ⟨rfl, rfl⟩))
           go_roundg g
           case measure => omega
           case rel => exact ⟨j + 1, by omega, by have := HI.out; go_num, hB2⟩
        · obtain rfl : v = -1 := by omega
          go_wp2_with (first
            | (go_at_call 57; refine (Bt.bit_neg _ _ _ zs _ _ (by omega) _ (HS.out.below hB) HV.out (by omega)).mono ?_; rintro e w2 ⟨rfl, hb⟩; have hB2 := bel_step hB hb; clear hb)
            | (go_at_call 58; refine (Bt.refBit_t _ _ _ zs _ _ (by omega) _ (HS.out.below hB2) HV.out).mono ?_; rintro e w3 ⟨rfl, rfl⟩))
          go_roundg g
          case measure => omega
          case rel => exact ⟨j + 1, by omega, by have := HI.out; go_num, hB2⟩
  · have kd : min (len0 : Int) 12 = 12 := by omega
    clear h
    go_enter Try.func9, Try.ntmps9
    go_wp2
    go_loopg [5] (8 * 12 + 2) (fun g s5 wr => ∃ j : Nat, j + g = 8 * 12 + 2 ∧ s5 = .int .i64 ((j : Int) - 1) ∧ Below w.heap.size w wr)
    case atStart => exact ⟨0, by omega, rfl, Below.refl _ _⟩
    case round =>
      obtain ⟨j, hj, rfl, hB⟩ := hrel
      obtain ⟨I, hI⟩ : ∃ I, (j : Int) - 1 = I := ⟨_, rfl⟩
      have hI1 : -1 ≤ I := by omega
      have hI2 : I ≤ 8 * (12 : Nat) + 1 := by omega
      have HI := Lib.hid hI
      rw [hI]
      cases gk with
      | zero =>
        have hlt : ¬ I ≤ 8 * ((12 : Nat) : Int) := by omega
        obtain ⟨v, hv⟩ : ∃ v, Bt.bitV zs a1 = v := ⟨_, rfl⟩
        have hvb := Bt.bitV_le zs a1
        rw [hv] at hvb
        obtain ⟨v0, v1⟩ := hvb
        have HV := Lib.hid hv
        clear hI hv hj
        by_cases hp : 0 ≤ v
        · obtain rfl | rfl : v = 0 ∨ v = 1 := by omega
          all_goals
           go_wp2_with (first
             | (go_at_call 57; refine (Bt.bit_pos _ _ _ zs _ _ h1.out _ (HS.out.below hB) HV.out (by omega)).mono ?_; rintro e w2 ⟨rfl, hb⟩; have hB2 := bel_step hB hb; clear hb)
             | (go_at_call 58; refine (Bt.refBit_t _ _ _ zs _ _ h1.out _ (HS.out.below hB2) HV.out).mono ?_; rintro e w3 ⟨rfl, rfl⟩)
             | (go_at_call 53; refine (Bt.lives7_any _).mono ?_; rintro e w4 ⟨rfl, hb4⟩))
           go_ret
           exact ⟨rfl, bel_step hB2 hb4⟩
        · obtain rfl : v = -1 := by omega
          go_wp2_with (first
            | (go_at_call 57; refine (Bt.bit_neg _ _ _ zs _ _ h1.out _ (HS.out.below hB) HV.out (by omega)).mono ?_; rintro e w2 ⟨rfl, hb⟩; have hB2 := bel_step hB hb; clear hb)
            | (go_at_call 58; refine (Bt.refBit_t _ _ _ zs _ _ h1.out _ (HS.out.below hB2) HV.out).mono ?_; rintro e w3 ⟨rfl, rfl⟩)
            | (go_at_call 53; refine (Bt.lives7_any _).mono ?_; rintro e w4 ⟨rfl, hb4⟩))
          go_ret
          exact ⟨rfl, bel_step hB2 hb4⟩
      | succ g =>
        have hlt : I ≤ 8 * ((12 : Nat) : Int) := by omega
        obtain ⟨v, hv⟩ : ∃ v, Bt.bitV zs I = v := ⟨_, rfl⟩
        have hvb := Bt.bitV_le zs I
        rw [hv] at hvb
        obtain ⟨v0, v1⟩ := hvb
        have HV := Lib.hid hv
        clear hI hv
        by_cases hp : 0 ≤ v
        · obtain rfl | rfl : v = 0 ∨ v = 1 := by omega
          all_goals
           go_wp2_with (first
             | (go_at_call 57; refine (Bt.bit_pos _ _ _ zs _ _ (by omega) _ (HS.out.below hB) HV.out (by omega)).mono ?_; rintro e w2 ⟨rfl, hb⟩; have hB2 := bel_step hB hb; clear hb)
             | (go_at_call 58; refine (Bt.refBit_t _ _ _ zs _ _ (by omega) _ (HS.out.below hB2) HV.out).mono ?_; rintro e w3 ⟨rfl, rfl⟩))
           go_roundg g
           case measure => omega
           case rel => exact ⟨j + 1, by omega, by have := HI.out; go_num, hB2⟩
        · obtain rfl : v = -1 := by omega
          go_wp2_with (first
            | (go_at_call 57; refine (Bt.bit_neg _ _ _ zs _ _ (by omega) _ (HS.out.below hB) HV.out (by omega)).mono ?_; rintro e w2 ⟨rfl, hb⟩; have hB2 := bel_step hB hb; clear hb)
            | (go_at_call 58; refine (Bt.refBit_t _ _ _ zs _ _ (by omega) _ (HS.out.below hB2) HV.out).mono ?_; rintro e w3 ⟨rfl, rfl⟩))
          go_roundg g
          case measure => omega
          case rel => exact ⟨j + 1, by omega, by have := HI.out; go_num, hB2⟩
end Go.Proofs.Ytjjpnipcpnkakaa

/- TurnTall: what would be too wide is not laid: the walk of the law. No condition. -/
import Derived.Test.YtlihkdbbcnmbmaaTurU
namespace Go.Proofs.Ytlihkdbbcnmbmaa
open Go.RowKit
set_option linter.unusedVariables false

theorem around_14 (n : Int) : ∃ k : Nat, k < 14 ∧ Ar.around n 14 = k := by
  obtain ⟨h1, h2⟩ := Ar.around_lt n 14 (by omega)
  exact ⟨(Ar.around n 14).toNat, by omega, by omega⟩
theorem tall_ok (h : Nat) (h1 : 1 ≤ h) (h2 : h ≤ 65536) : Rc.Ok (1 : Nat) h (List.replicate h 0) := by
  refine ⟨by omega, by omega, by omega, by omega, by omega, by simp⟩
/-- where each turn's matrix is -/
def tallP (h k : Nat) : Int := if k % 2 = 1 then (if h ≤ 4096 then 1 else -1) else 0
theorem tall_places (h : Nat) (h1 : 2 ≤ h) (h2 : h ≤ 65536) : ∀ k, k < 8 → (Tu.orbO 1 h (List.replicate h 0) [0, 1, 2, 3, 4, 5, 6, 7]).2.getD k 0 = tallP h k := by
  have := Tu.orb8 (W := 1) (H := h) (L := List.replicate h 0) (A := (1, h, List.replicate h 0)) (O := if h ≤ 4096 then some (h, 1, List.replicate h 0) else none)
    (fun g hg h0 => Tu.tall_even g h hg h0 (by omega) h2) (fun g hg h0 => Tu.tall_odd g h hg h0 (by omega)) (by
      by_cases h4 : h ≤ 4096
      · rw [if_pos h4]
        refine .inr ⟨_, rfl, ?_, ?_⟩ <;> simp [Tu.isKey, Tu.eqM] <;> omega
      · rw [if_neg h4]; exact .inl rfl)
  rw [this]
  intro k hk
  unfold tallP
  by_cases h4 : h ≤ 4096
  · rw [if_pos h4, if_pos h4, if_neg (by simp)]
    rcases Tu.turn8 hk with rfl | rfl | rfl | rfl | rfl | rfl | rfl | rfl <;> rfl
  · rw [if_neg h4, if_neg h4, if_pos rfl]
    rcases Tu.turn8 hk with rfl | rfl | rfl | rfl | rfl | rfl | rfl | rfl <;> rfl
theorem tmod2 (a : Nat) : (a : Int).tmod 2 = ((a % 2 : Nat) : Int) := by rw [Int.tmod_eq_emod_of_nonneg (by omega)]; rfl
set_option maxRecDepth 100000 in
set_option maxHeartbeats 8000000 in
theorem turnTall_walk (a0 : Int) (w : World) (w0 : (Lit.int .i64 a0).wf = true) :
    Calls Try.prog 13 #[.int .i64 a0] w fun e w' => e = .returned (.bool true) ∧ Below w.heap.size w w' := by
  obtain ⟨r, hr, er⟩ := around_14 a0
  have R1 := Lib.hid (fun W2 => aroundOf a0 14 (wfI w0).1 (wfI w0).2 (by omega) (by omega) W2)
  rw [er] at R1
  clear er w0
  obtain ⟨h, hh⟩ : ∃ h : Nat, (4090 : Int) + r = h := ⟨4090 + r, by omega⟩
  have h1 : 4090 ≤ h := by omega
  have h2 : h ≤ 4103 := by omega
  have hw1 : wrap64 (4090 + (r : Int)) = h := by rw [hh]; rw [IntWalk.wrap64_in] <;> omega
  have hmk := run_make_row' (P := Try.prog) 23 51 (.int .u64 0) 8 Try.underlying23 Try.info_px rfl .i64 .i64 h (by omega) (by omega)
  rw [made_noughts] at hmk
  obtain ⟨cs, hcs⟩ : ∃ cs, ((List.replicate h (0 : Int)).map (Value.int .u64)).toArray = cs := ⟨_, rfl⟩
  rw [hcs] at hmk
  have HCS := Lib.hid hcs
  clear hcs hh hr
  go_enter Try.func13, Try.ntmps13
  go_wp2_with (go_at_call 37; refine (R1.out _).mono ?_; rintro e w9 ⟨rfl, rfl⟩)
  rw [hw1]
  clear hw1 hmk
  obtain ⟨W0, hW0⟩ : ∃ W0, ((w.alloc (.cells cs 51)).alloc (.cells #[.int .i64 1, .int .i64 h, .slice (some ⟨w.heap.size, 0, none⟩) h h] 26)).alloc (.cells #[.int .i64 0, .int .i64 1, .int .i64 2, .int .i64 3, .int .i64 4, .int .i64 5, .int .i64 6, .int .i64 7] 3) = W0 := ⟨_, rfl⟩
  have hZ : OwnG 0 W0 w.heap.size (List.replicate h 0) := by
    refine ⟨Nat.zero_le _, ?_⟩
    rw [HCS.out, ← hW0]
    exact heapOld _ _ (heapOld _ _ (heapNew _ _))
  have hM := (Sb.new (w.alloc (.cells cs 51)) 26 (.int .i64 1) (.int .i64 h) (.slice (some ⟨w.heap.size, 0, none⟩) h h)).alloc (.cells #[.int .i64 0, .int .i64 1, .int .i64 2, .int .i64 3, .int .i64 4, .int .i64 5, .int .i64 6, .int .i64 7] 3)
  rw [hW0, World.size_alloc] at hM
  have hB : Below w.heap.size w W0 := by rw [← hW0]; go_grown
  have hts : ∀ i, i < 8 → W0.cell? ⟨w.heap.size + 1 + 1, 0 + i, none⟩ = some (.int .i64 (([0, 1, 2, 3, 4, 5, 6, 7] : List Int).getD i 0)) := by
    intro i hi
    rw [← hW0]
    rcases Tu.turn8 hi with rfl | rfl | rfl | rfl | rfl | rfl | rfl | rfl <;> simp [go_sem]
  rw [hW0]
  have hO := orbit_pos 1 h h (w.heap.size + 1 + 1) 0 (some ⟨w.heap.size, 0, none⟩) h 8 8 (List.replicate h 0) [0, 1, 2, 3, 4, 5, 6, 7] (tall_ok h (by omega) (by omega)) (Nat.one_mul h) (Nat.le_refl _) (by omega) (by omega) (by omega) W0 (ownG_len hZ (by simp)) rfl hts
  refine hO.mono ?_
  clear hO hts hW0
  rintro e w2 ⟨v, es, bp, base, rfl, -, -, -, -, hPl, hb⟩
  have HPV := Lib.hid (tall_places h (by omega) (by omega))
  have hPn : (Tu.orbO 1 h (List.replicate h 0) [0, 1, 2, 3, 4, 5, 6, 7]).2.length = 8 := orb_len ..
  obtain ⟨P8, hP8⟩ : ∃ P, (Tu.orbO 1 h (List.replicate h 0) [0, 1, 2, 3, 4, 5, 6, 7]).2 = P := ⟨_, rfl⟩
  rw [hP8] at hPl HPV hPn
  have HPN := Lib.hid hPn
  have HPL := Lib.hid hPl
  have HZ := Lib.hid (hZ.later hb)
  have HM := Lib.hid (hM.later hb)
  have HB := Lib.hid (bel_step hB hb)
  clear hP8 hPl hZ hM hB hb hPn HCS
  go_wp2
  go_loopg [7] 8 (fun gg s7 wr => ∃ k : Nat, k + gg = 8 ∧ s7 = .int .i64 k ∧ Below w2.heap.size w2 wr)
  case atStart => exact ⟨0, by omega, rfl, Below.refl _ _⟩
  case round =>
    obtain ⟨k, hk, rfl, hBr⟩ := hrel
    have HBr := Lib.hid hBr
    clear hBr
    obtain ⟨x0, x1, x2⟩ := (HM.out.later HBr.out).cells
    cases gk with
    | zero =>
      have hlt : ¬ (k : Int) < 8 := by omega
      have hBt := HBr.out
      go_wp2_with (go_at_call 47; refine (lives4_any _).mono ?_; rintro e w9 ⟨rfl, hb9⟩; replace hBt := bel_step hBt hb9)
      go_ret
      exact ⟨rfl, bel_step HB.out hBt⟩
    | succ gg =>
      have hlt : (k : Int) < 8 := by omega
      have hk8 : k < 8 := by omega
      have HSL := Lib.hid (show SlK .u64 wr (some ⟨w.heap.size, 0, none⟩) (List.replicate h (0 : Int)).length (List.replicate h 0) from (HZ.out.later HBr.out).sl)
      have hpv := HPV.out k hk8
      unfold tallP at hpv
      rcases Nat.mod_two_eq_zero_or_one k with hpar | hpar
      · have hq : ¬ (0 : Int) = 1 := by decide
        have e1 : Tu.sw k 1 h = 1 := by unfold Tu.sw; rw [if_neg (by omega)]
        have e2 : Tu.sw k h 1 = h := by unfold Tu.sw; rw [if_neg (by omega)]
        have hL := turnLay_yes 1 h k (some ⟨w.heap.size, 0, none⟩) h (List.replicate h 0) hk8 (tall_ok h (by omega) (by omega)) (by simp) (by omega) (by rw [e1, e2, Rc.sized_iff]; omega) wr HSL.out
        rw [e1, e2, List.length_replicate, Nat.one_mul] at hL
        have HL := Lib.hid hL
        have hm : (k : Int).tmod 2 = 0 := by rw [tmod2, hpar]; rfl
        rw [if_neg (by omega)] at hpv
        have HPK := Lib.hid hpv
        clear hL e1 e2 hpv
        go_wp2_with fail
        refine HL.out.mono ?_
        rintro e w4 ⟨gb, rfl, -, hb4⟩
        have HB4 := Lib.hid (bel_step HBr.out hb4)
        have hpc := (HPL.out.later HB4.out).cell (i := k) (by rw [HPN.out]; exact hk8)
        rw [HPK.out] at hpc
        have hbp : bp < w4.heap.size := Nat.lt_of_lt_of_le HPL.out.lt HB4.out.size
        clear hb4 x0 x1 x2
        go_wp2
        go_roundg gg
        case measure => omega
        case rel => exact ⟨k + 1, by omega, by go_num, (HB4.out.alloc HB4.out.size _)⟩
      · by_cases hbig : h ≤ 4096
        · have hbg : ¬ (4096 : Int) < (h : Int) := by omega
          have e1 : Tu.sw k 1 h = h := by unfold Tu.sw; rw [if_pos hpar]
          have e2 : Tu.sw k h 1 = 1 := by unfold Tu.sw; rw [if_pos hpar]
          have hL := turnLay_yes 1 h k (some ⟨w.heap.size, 0, none⟩) h (List.replicate h 0) hk8 (tall_ok h (by omega) (by omega)) (by simp) (by omega) (by rw [e1, e2, Rc.sized_iff]; omega) wr HSL.out
          rw [e1, e2, List.length_replicate, Nat.one_mul] at hL
          have HL := Lib.hid hL
          have hm : (k : Int).tmod 2 = 1 := by rw [tmod2, hpar]; rfl
          rw [if_pos hpar, if_pos hbig] at hpv
          have HPK := Lib.hid hpv
          clear hL e1 e2 hpv
          go_wp2_with fail
          refine HL.out.mono ?_
          rintro e w4 ⟨gb, rfl, -, hb4⟩
          have HB4 := Lib.hid (bel_step HBr.out hb4)
          have hpc := (HPL.out.later HB4.out).cell (i := k) (by rw [HPN.out]; exact hk8)
          rw [HPK.out] at hpc
          have hbp : bp < w4.heap.size := Nat.lt_of_lt_of_le HPL.out.lt HB4.out.size
          clear hb4 x0 x1 x2
          go_wp2
          go_roundg gg
          case measure => omega
          case rel => exact ⟨k + 1, by omega, by go_num, (HB4.out.alloc HB4.out.size _)⟩
        · have hbg : (4096 : Int) < (h : Int) := by omega
          have e1 : Tu.sw k 1 h = h := by unfold Tu.sw; rw [if_pos hpar]
          have e2 : Tu.sw k h 1 = 1 := by unfold Tu.sw; rw [if_pos hpar]
          have hsz : Rc.sized (Tu.sw k 1 h : Nat) (Tu.sw k h 1 : Nat) = false := by
            rw [e1, e2]
            cases e : Rc.sized (h : Int) ((1 : Nat) : Int) with
            | false => rfl
            | true => rw [Rc.sized_iff] at e; omega
          have hL := turnLay_no 1 h k (some ⟨w.heap.size, 0, none⟩) h h hk8 (by have := Rc.ok_may (tall_ok h (by omega) (by omega)); rwa [List.length_replicate] at this) (by omega) hsz wr
          have HL := Lib.hid hL
          have hm : (k : Int).tmod 2 = 1 := by rw [tmod2, hpar]; rfl
          rw [if_pos hpar, if_neg hbig] at hpv
          have HPK := Lib.hid hpv
          clear hL e1 e2 hpv hsz
          go_wp2_with fail
          refine HL.out.mono ?_
          rintro e w4 ⟨rfl, hb4⟩
          have HB4 := Lib.hid (bel_step HBr.out hb4)
          have hpc := (HPL.out.later HB4.out).cell (i := k) (by rw [HPN.out]; exact hk8)
          rw [HPK.out] at hpc
          have hbp : bp < w4.heap.size := Nat.lt_of_lt_of_le HPL.out.lt HB4.out.size
          clear hb4 x0 x1 x2
          go_wp2
          go_roundg gg
          case measure => omega
          case rel => exact ⟨k + 1, by omega, by go_num, (HB4.out.alloc HB4.out.size _)⟩
end Go.Proofs.Ytlihkdbbcnmbmaa

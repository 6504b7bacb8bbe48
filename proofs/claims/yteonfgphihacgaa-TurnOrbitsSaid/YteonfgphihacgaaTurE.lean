/- What can't be laid, and the chapter's example: turn's Lay and lives, over any memory. Condition: the matrix may be. -/
import Derived.Test.YteonfgphihacgaaTurD
namespace Go.Proofs.Yteonfgphihacgaa
open Go.RowKit
set_option linter.unusedVariables false

set_option maxHeartbeats 2000000 in
theorem turnLay_arg (W H g : Int) (a : Option Addr) (n c : Nat) (hg : Tu.isT g = false) (w : World) :
    Calls Try.prog 82 #[.agg #[.int .i64 W, .int .i64 H, .slice a n c], .int .i64 g] w fun e w' => e = .returned (.tuple #[.agg #[.int .i64 0, .int .i64 0, .slice none 0 0], .int .i64 1]) ∧ Below w.heap.size w w' := by
  have HT := Lib.hid hg
  clear hg
  go_enter Try.func82, Try.ntmps82
  go_wp2_with (go_at_call 79; refine (turnMay_any _ _).mono ?_; rw [HT.out]; rintro e w1 ⟨rfl, rfl⟩)
  go_returns
  exact ⟨rfl, by go_grown⟩
set_option maxHeartbeats 2000000 in
theorem turnLay_no (W H g : Nat) (a : Option Addr) (n c : Nat) (hg : g < 8) (hm : Rc.mayV W H n = true) (hn : n ≤ 9223372036854775807) (hsz : Rc.sized (Tu.sw g W H : Nat) (Tu.sw g H W : Nat) = false) (w : World) :
    Calls Try.prog 82 #[.agg #[.int .i64 W, .int .i64 H, .slice a n c], .int .i64 g] w fun e w' => e = .returned (.tuple #[.agg #[.int .i64 0, .int .i64 0, .slice none 0 0], .int .i64 4]) ∧ Below w.heap.size w w' := by
  have HM := Lib.hid hm
  have HT := Lib.hid (show Tu.isT (g : Int) = true by rw [Tu.isT_iff]; omega)
  have hZ := Lib.hid (fun W2 => size_any W H g hg W2)
  have hNw := Lib.hid (fun W2 => new_no (Tu.sw g W H : Nat) (Tu.sw g H W : Nat) W2 hsz)
  clear hm hsz hg
  obtain ⟨p, hp⟩ : ∃ p, Tu.sw g W H = p := ⟨_, rfl⟩
  obtain ⟨q, hq⟩ : ∃ q, Tu.sw g H W = q := ⟨_, rfl⟩
  rw [hp, hq] at hZ hNw
  clear hp hq
  have B := box2 w (.cells #[.int .i64 W, .int .i64 H, .slice a n c] 54) (.cells #[.int .i64 0, .int .i64 0, .slice none 0 0] 54)
  obtain ⟨W0, hW0⟩ : ∃ W0, (w.alloc (.cells #[.int .i64 W, .int .i64 H, .slice a n c] 54)).alloc (.cells #[.int .i64 0, .int .i64 0, .slice none 0 0] 54) = W0 := ⟨_, rfl⟩
  have D : Sb W0 w.heap.size 54 (.int .i64 W) (.int .i64 H) (.slice a n c) := by rw [← hW0]; exact (Sb.new _ _ _ _ _).alloc _
  have E : Sb W0 (w.heap.size + 1) 54 (.int .i64 0) (.int .i64 0) (.slice none 0 0) := by
    rw [← hW0]
    have := Sb.new (w.alloc (.cells #[.int .i64 W, .int .i64 H, .slice a n c] 54)) 54 (.int .i64 0) (.int .i64 0) (.slice none 0 0)
    simpa using this
  have hz0 : W0.heap.size = w.heap.size + 2 := by rw [← hW0]; simp
  rw [hW0] at B
  obtain ⟨d0, d1, d2⟩ := D.cells
  have HB := Lib.hid B
  have HD := Lib.hid D
  have HE := Lib.hid E
  clear B D E
  have B0 : Below W0.heap.size W0 W0 := Below.refl _ _
  go_enter Try.func82, Try.ntmps82
  go_wp2_with (first
    | (go_at_call 79; refine (turnMay_any _ _).mono ?_; rw [HT.out]; rintro e w1 ⟨rfl, rfl⟩)
    | (go_at_call 41; refine (may_any W H a n c hn _).mono ?_; rw [HM.out]; rintro e w1 ⟨rfl, hb⟩; replace B0 := bel_step B0 hb; obtain ⟨d0, d1, d2⟩ := (HD.out.later B0).cells; have hz1 : W0.heap.size ≤ w1.heap.size := B0.size)
    | (go_at_call 100; refine (hZ.out _).mono ?_; rintro e w1 ⟨rfl, rfl⟩)
    | (go_at_call 61; refine (hNw.out _).mono ?_; rintro e w3 ⟨rfl, hb⟩; replace B0 := bel_step B0 hb; obtain ⟨e0, e1, e2⟩ := (HE.out.later B0).cells; obtain ⟨y0, y1, y2⟩ := (HE.out.later B0).fr; have hz4 : w.heap.size + 1 < w3.heap.size := (by have := B0.size; omega); have R := (HE.out.later B0).put (.int .i64 0) (.int .i64 0) (.slice none 0 0); have HR := Lib.hid (R.alloc (.cells #[.int .i64 0, .int .i64 0, .slice none 0 0] 54)); clear R))
  refine bodyPost_ret (ret_cell2 Try.results82 _ _ _ _ rfl (load_mt HR.out)) rfl ?_
  exact ⟨rfl, ((((bel_step HB.out B0).setCell (by simp) _).setCell (by simp) _).setCell (by simp) _).alloc (by simp; omega) _⟩
theorem ok22 : Rc.Ok 2 2 [1, 2, 3, 4] := by unfold Rc.Ok; decide
theorem lay_id (w : World) (b off : Nat) (hs : SlK .u64 w (some ⟨b, off, none⟩) 4 [1, 2, 3, 4]) :
    Calls Try.prog 82 #[.agg #[.int .i64 2, .int .i64 2, .slice (some ⟨b, off, none⟩) 4 4], .int .i64 1] w fun e w' => ∃ gb, e = .returned (.tuple #[.agg #[.int .i64 2, .int .i64 2, .slice (some ⟨gb, 0, none⟩) 4 4], .int .i64 0]) ∧ OwnG w.heap.size w' gb [3, 1, 4, 2] ∧ Below w.heap.size w w' :=
  turnLay_yes 2 2 1 _ 4 [1, 2, 3, 4] (by omega) ok22 (by decide) (by omega) (by decide) w hs
theorem lay_mi (w : World) (b off : Nat) (hs : SlK .u64 w (some ⟨b, off, none⟩) 4 [1, 2, 3, 4]) :
    Calls Try.prog 82 #[.agg #[.int .i64 2, .int .i64 2, .slice (some ⟨b, off, none⟩) 4 4], .int .i64 4] w fun e w' => ∃ gb, e = .returned (.tuple #[.agg #[.int .i64 2, .int .i64 2, .slice (some ⟨gb, 0, none⟩) 4 4], .int .i64 0]) ∧ OwnG w.heap.size w' gb [2, 1, 4, 3] ∧ Below w.heap.size w w' :=
  turnLay_yes 2 2 4 _ 4 [1, 2, 3, 4] (by omega) ok22 (by decide) (by omega) (by decide) w hs
set_option maxHeartbeats 2000000 in
theorem lives4_any (w : World) :
    Calls Try.prog 58 #[] w fun e w' => e = .returned (.bool true) ∧ Below w.heap.size w w' := by
  have hs : SlK .u64 ((w.alloc (.cells #[.int .u64 1, .int .u64 2, .int .u64 3, .int .u64 4] 76)).alloc (.cells #[.int .i64 2, .int .i64 2, .slice (some ⟨w.heap.size, 0, none⟩) 4 4] 54)) (some ⟨w.heap.size, 0, none⟩) 4 [1, 2, 3, 4] := by
    refine ⟨rfl, .inr ⟨_, _, rfl, fun i hi => ?_⟩⟩
    have : i = 0 ∨ i = 1 ∨ i = 2 ∨ i = 3 := by omega
    rcases this with rfl | rfl | rfl | rfl <;> simp [go_sem]
  have B : Below w.heap.size w ((w.alloc (.cells #[.int .u64 1, .int .u64 2, .int .u64 3, .int .u64 4] 76)).alloc (.cells #[.int .i64 2, .int .i64 2, .slice (some ⟨w.heap.size, 0, none⟩) 4 4] 54)) := by go_grown
  have D := Sb.new (w.alloc (.cells #[.int .u64 1, .int .u64 2, .int .u64 3, .int .u64 4] 76)) 54 (.int .i64 2) (.int .i64 2) (.slice (some ⟨w.heap.size, 0, none⟩) 4 4)
  simp only [World.size_alloc] at D
  obtain ⟨W0, hW0⟩ : ∃ W0, (w.alloc (.cells #[.int .u64 1, .int .u64 2, .int .u64 3, .int .u64 4] 76)).alloc (.cells #[.int .i64 2, .int .i64 2, .slice (some ⟨w.heap.size, 0, none⟩) 4 4] 54) = W0 := ⟨_, rfl⟩
  have hz0 : W0.heap.size = w.heap.size + 2 := by rw [← hW0]; simp
  rw [hW0] at hs B D
  obtain ⟨d0, d1, d2⟩ := D.cells
  have HS := Lib.hid hs
  have HD := Lib.hid D
  have B0 : Below W0.heap.size W0 W0 := Below.refl _ _
  have HB := Lib.hid B
  clear hs B D
  go_enter Try.func58, Try.ntmps58
  go_wp2_with fail
  refine (lay_id (w := _) _ _ HS.out).mono ?_
  rintro e w1 ⟨g1, rfl, hO1, hb1⟩
  obtain ⟨d0, d1, d2⟩ := (HD.out.later hb1).cells
  have hz1 : w.heap.size + 1 < w1.heap.size := by have := hb1.size; omega
  have B1 : Below W0.heap.size W0 (w1.alloc (.cells #[.int .i64 2, .int .i64 2, .slice (some ⟨g1, 0, none⟩) 4 4] 54)) := hb1.alloc hb1.size _
  have HO1 := Lib.hid (hO1.alloc (.cells #[.int .i64 2, .int .i64 2, .slice (some ⟨g1, 0, none⟩) 4 4] 54))
  have HF1 := Lib.hid (Sb.new w1 54 (.int .i64 2) (.int .i64 2) (.slice (some ⟨g1, 0, none⟩) 4 4))
  clear hO1 hb1
  go_wp2_with fail
  refine (lay_mi (w := _) _ _ (HS.out.below B1)).mono ?_
  rintro e w2 ⟨g2, rfl, hO2, hb2⟩
  have B2 := bel_step B1 hb2
  have O1 := (HO1.out.later hb2)
  have F1 := HF1.out.later hb2
  have hz2 : w1.heap.size < w2.heap.size := by have := hb2.size; simp at this; omega
  have HO1' := Lib.hid (O1.alloc (.cells #[.int .i64 2, .int .i64 2, .slice (some ⟨g2, 0, none⟩) 4 4] 54))
  have HO2 := Lib.hid (hO2.alloc (.cells #[.int .i64 2, .int .i64 2, .slice (some ⟨g2, 0, none⟩) 4 4] 54))
  have F2 := Sb.new w2 54 (.int .i64 2) (.int .i64 2) (.slice (some ⟨g2, 0, none⟩) 4 4)
  have F1' := F1.alloc (.cells #[.int .i64 2, .int .i64 2, .slice (some ⟨g2, 0, none⟩) 4 4] 54)
  have B3 := B2.alloc B2.size (.cells #[.int .i64 2, .int .i64 2, .slice (some ⟨g2, 0, none⟩) 4 4] 54)
  obtain ⟨w3, hw3⟩ : ∃ w3, w2.alloc (.cells #[.int .i64 2, .int .i64 2, .slice (some ⟨g2, 0, none⟩) 4 4] 54) = w3 := ⟨_, rfl⟩
  rw [hw3] at HO1' HO2 F2 F1' B3
  obtain ⟨f0, f1, f2⟩ := F1'.cells
  obtain ⟨y0, y1, y2⟩ := F2.cells
  have HF1' := Lib.hid F1'
  have HF2 := Lib.hid F2
  have hz3 : w3.heap.size = w2.heap.size + 1 := by rw [← hw3]; simp
  have hz4 : w1.heap.size < w3.heap.size := by omega
  have hz5 : w2.heap.size < w3.heap.size := by omega
  have HB3 := Lib.hid (bel_step HB.out B3)
  have B4 : Below w3.heap.size w3 w3 := Below.refl _ _
  have lit : ∀ (W : World) (p q r s : Int), SlK .u64 (W.alloc (.cells #[.int .u64 p, .int .u64 q, .int .u64 r, .int .u64 s] 76)) (some ⟨W.heap.size, 0, none⟩) 4 [p, q, r, s] := fun W p q r s => by
    refine ⟨rfl, .inr ⟨_, _, rfl, fun i hi => ?_⟩⟩
    have : i = 0 ∨ i = 1 ∨ i = 2 ∨ i = 3 := by omega
    rcases this with rfl | rfl | rfl | rfl <;> simp [go_sem]
  have HLIT := Lib.hid lit
  clear hz3 lit F1 F1' F2 O1 hO2 hb2 B1 B2 B3
  go_wp2_with fail
  have K1 := sameRow_any (some ⟨g1, 0, none⟩) (some ⟨w3.heap.size, 0, none⟩) 4 4 4 4 [3, 1, 4, 2] [3, 1, 4, 2] (w3.alloc (.cells #[.int .u64 3, .int .u64 1, .int .u64 4, .int .u64 2] 76)) (by omega) ((ownG_len HO1'.out rfl).below (box1 _ _)) (HLIT.out w3 3 1 4 2)
  refine K1.mono ?_
  rw [show decide ([3, 1, 4, 2] = [(3 : Int), 1, 4, 2]) = true from by decide]
  rintro e w4 ⟨rfl, hb4⟩
  replace B4 := bel_step (B4.alloc B4.size (.cells #[.int .u64 3, .int .u64 1, .int .u64 4, .int .u64 2] 76)) hb4
  obtain ⟨y0, y1, y2⟩ := (HF2.out.later B4).cells
  go_wp2_with fail
  have K2 := sameRow_any (some ⟨g2, 0, none⟩) (some ⟨w4.heap.size, 0, none⟩) 4 4 4 4 [2, 1, 4, 3] [2, 1, 4, 3] (w4.alloc (.cells #[.int .u64 2, .int .u64 1, .int .u64 4, .int .u64 3] 76)) (by omega) ((ownG_len (HO2.out.later B4) rfl).below (box1 _ _)) (HLIT.out w4 2 1 4 3)
  refine K2.mono ?_
  rw [show decide ([2, 1, 4, 3] = [(2 : Int), 1, 4, 3]) = true from by decide]
  rintro e w5 ⟨rfl, hb5⟩
  have B5 := bel_step (B4.alloc B4.size (.cells #[.int .u64 2, .int .u64 1, .int .u64 4, .int .u64 3] 76)) hb5
  go_wp2
  go_ret
  exact ⟨rfl, bel_step HB3.out B5⟩
end Go.Proofs.Yteonfgphihacgaa

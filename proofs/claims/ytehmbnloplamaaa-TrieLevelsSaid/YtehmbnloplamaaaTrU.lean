/- The document's example of layer 12. No condition. -/
import Derived.Test.YtehmbnloplamaaaTrL
import Derived.Test.YtehmbnloplamaaaTrE
namespace Go.Proofs.Ytehmbnloplamaaa
open Go.RowKit
set_option linter.unusedVariables false
open Tr
theorem px_stands {F : Nat → Prop} {W : World} {l : List Int} {n : Nat} (hl : l.length = n) (hF : ∀ g, F g → g < W.heap.size) : ∀ w', Sep F (W.alloc (.cells (l.map (Value.int .u64)).toArray 39)) w' → SlK .u64 w' (some ⟨W.heap.size, 0, none⟩) n l := fun w' hs => by
  have h1 := (hs.block W.heap.size (by simp) (fun e => by have := hF _ e; omega)).trans (World.alloc_heap_new W _)
  refine ⟨hl, .inr ⟨_, _, rfl, fun i hi => ?_⟩⟩
  rw [Nat.zero_add]
  simp [World.cell?, h1, List.getD_eq_getElem?_getD, List.getElem?_eq_getElem (show i < l.length by omega)]
set_option maxRecDepth 100000 in
set_option maxHeartbeats 400000 in
theorem lives12_any (w : World) : Calls Try.prog 41 #[] w fun e w' => e = .returned (.bool true) ∧ Below w.heap.size w w' := by
  go_enter Try.func41, Try.ntmps41
  go_upto_region 4 with (go_at_call 30; refine (new_tr _).mono ?_; rintro e w1 ⟨tb, nb, rfl, hT, hb, h1, h2⟩; have HT1 := Lib.hid hT; have HB1 := Lib.hid hb; clear hT hb h1 h2)
  have hF1 : ∀ g, Fp tb nb ([[]] : LL).length (fun _ => Value.slice none 0 0) g → w.heap.size ≤ g ∧ g < w1.heap.size := fun g hg => TrX.lt HT1.out hg
  have HF1 := Lib.hid hF1
  have HI1 : Hid (Iw [[]] []) := Lib.hid ⟨Inv.start, fun x hx => by cases hx⟩
  have HP1 := Lib.hid (put_tr (m := 2) (c := 2) (l := [1, 2]) (HT1.out.later (box1T w1 (.cells #[.int .u64 1, .int .u64 2] 39))) HI1.out (px_stands (W := w1) (l := [1, 2]) (n := 2) rfl (fun g hg => (hF1 g hg).2)) (by omega) (by omega) (by omega) (by omega) (by decide) (by decide) (by decide))
  have e1 : putL [[]] [1, 2] = [[], [1], [1, 2]] := by decide
  rw [e1] at HP1
  clear hF1 e1
  go_upto_region 5 with (go_at_call 32; (with_reducible refine HP1.out.mono ?_); rintro e w2 ⟨rfl, nb2, nc2, rv2, hT, ht⟩; have HT2 := Lib.hid hT; have HTu2 := Lib.hid ht; clear hT ht)
  have HI2 : Hid (Iw [[], [1], [1, 2]] ([] ++ [[1, 2]])) := Lib.hid ⟨⟨by decide, rfl, by decide, fun j h1 h2 => by
      have : j = 1 ∨ j = 2 := by simp at h2; omega
      rcases this with rfl | rfl <;> decide⟩, by decide⟩
  have HP2 := Lib.hid (put_tr (m := 2) (c := 2) (l := [1, 3]) (HT2.out.later (box1T w2 (.cells #[.int .u64 1, .int .u64 3] 39))) HI2.out (px_stands (W := w2) (l := [1, 3]) (n := 2) rfl (fun g hg => (TrX.lt HT2.out hg).2)) (by omega) (by omega) (by omega) (by omega) (by decide) (by decide) (by decide))
  have e2 : putL [[], [1], [1, 2]] [1, 3] = [[], [1], [1, 2], [1, 3]] := by decide
  rw [e2] at HP2
  clear e2
  go_upto_region 6 with (go_at_call 32; (with_reducible refine HP2.out.mono ?_); rintro e w3 ⟨rfl, nb3, nc3, rv3, hT, ht⟩; have HT3 := Lib.hid hT; have HTu3 := Lib.hid ht; clear hT ht)
  have HI3 : Hid (Inv [[], [1], [1, 2], [1, 3]]) := Lib.hid ⟨by decide, rfl, by decide, fun j h1 h2 => by
      have : j = 1 ∨ j = 2 ∨ j = 3 := by simp at h2; omega
      rcases this with rfl | rfl | rfl <;> decide⟩
  have HW := Lib.hid (walk_tr (c := 3) (l := [1, 3, 4]) (m := 3) (HT3.out.later (box1T w3 (.cells #[.int .u64 1, .int .u64 3, .int .u64 4] 39))) HI3.out (px_stands (F := fun _ => False) (W := w3) (l := [1, 3, 4]) (n := 3) rfl (fun g hg => hg.elim) _ (Sep.refl _ _)) (by omega))
  have e3 : walkN [[], [1], [1, 2], [1, 3]] [1, 3, 4] = 3 := by decide
  have e4 : known [[], [1], [1, 2], [1, 3]] [1, 3, 4] = 2 := by decide
  rw [e3, e4] at HW
  have HBz : Hid (Below w.heap.size w (w3.alloc (.cells #[.int .u64 1, .int .u64 3, .int .u64 4] 39))) := Lib.hid (by
    have b1 : Below w.heap.size w (w1.alloc (.cells #[.int .u64 1, .int .u64 2] 39)) := bel_step HB1.out (box1T _ _)
    have b2 := b1.trans (HTu2.out.sep.below b1.size fun k hk e => by have := (HF1.out k e).1; omega)
    have b3 : Below w.heap.size w (w2.alloc (.cells #[.int .u64 1, .int .u64 3] 39)) := bel_step b2 (box1T _ _)
    have b4 := b3.trans (HTu3.out.sep.below b3.size fun k hk e => by have := (TrX.lt HT2.out e).1; have := HT1.out; omega)
    exact bel_step b4 (box1T _ _))
  clear e3 e4
  go_wp2_with (first
    | (go_at_call 50; refine HW.out.mono ?_; rintro e w9 ⟨rfl, hb⟩; have HB9 := Lib.hid hb; have HL := Lib.hid (len_tr (HT3.out.later (bel_step (box1T _ _) hb))); clear hb)
    | (go_at_call 35; refine HL.out.mono ?_; rintro e w9 ⟨rfl, rfl⟩))
  go_ret
  exact ⟨rfl, bel_step HBz.out HB9.out⟩
end Go.Proofs.Ytehmbnloplamaaa

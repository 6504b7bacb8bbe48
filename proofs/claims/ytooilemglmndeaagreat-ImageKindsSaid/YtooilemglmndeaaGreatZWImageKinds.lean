/- ImageKinds: the kinds that may tell images of a format are the document's: the walk of the law. No condition. -/
import Derived.Test.YtooilemglmndeaaGreatZgAE
import Derived.Test.YtooilemglmndeaaGreatZImL
import Derived.Test.YtooilemglmndeaaGreatZgAD
import Derived.Test.YtooilemglmndeaaGreatZgAA
namespace Go.Proofs.YtooilemglmndeaaGreat
set_option linter.unusedVariables false
open Go.RowKit
set_option linter.unusedVariables false
theorem Im.kinds_len (p : Int → Bool) : ∀ n, (Im.kn p n).length ≤ n
  | 0 => Nat.le_refl _
  | n + 1 => by
    have := Im.kinds_len p n
    unfold Im.kn
    split <;> simp <;> omega
theorem ik_sl {c m : Int} {w : World} {e : Ending} {w' : World} {n : Nat} (hn : (Im.kindsV c m).length = n) {l : List Int} (hl : Im.kindsV c m = l) (h : Bt.LsR (Im.kindsV c m) w e w') : ∃ (a : Option Addr) (cap : Nat), e = .returned (.slice a n cap) ∧ SlK .i64 w' a n l ∧ Below w.heap.size w w' := by
  obtain ⟨ad, c, rfl, hr, hb⟩ := h
  obtain ⟨ad', cap', e, ho, _⟩ := ownK_row rfl hr
  cases e
  have hs := ho.sl
  rw [hl] at hs hn ⊢
  rw [hn] at hs ⊢
  exact ⟨ad, c, rfl, hs, hb⟩
set_option maxRecDepth 100000 in
set_option maxHeartbeats 8000000 in
theorem imageKinds_walk (a0c0 a0m1 : Int) (w : World) (w00 : (Lit.int .i64 a0c0).wf = true) (w01 : (Lit.int .i64 a0m1).wf = true) :
    Calls Tryz.prog 5 #[.agg #[.int .i64 a0c0, .int .i64 a0m1]] w fun e w' => e = .returned (.bool true) ∧ Below w.heap.size w w' := by
  have HFO := Lib.hid (Pq.form_any a0c0 a0m1 (wfI w00) (wfI w01))
  have hcc := Pq.formC_in a0c0
  have hmm := Pq.formM_in a0m1
  obtain ⟨C, hC⟩ : ∃ C, Pq.Px.formC a0c0 = C := ⟨_, rfl⟩
  obtain ⟨M, hM⟩ : ∃ M, Pq.Px.formM a0m1 = M := ⟨_, rfl⟩
  rw [hC] at HFO hcc
  rw [hM] at HFO hmm
  have HX : ∀ c m, Nu.I c → Nu.I m → ∃ (n : Nat) (l : List Int), n ≤ 6 ∧ Hid (∀ W, Calls Tryz.prog 32 #[.agg #[.int .i64 c, .int .i64 m]] W fun e w' => ∃ (a : Option Addr) (cap : Nat), e = .returned (.slice a n cap) ∧ SlK .i64 w' a n l ∧ Below W.heap.size W w') ∧
      Hid (∀ W, Calls Tryz.prog 15 #[.agg #[.int .i64 c, .int .i64 m]] W fun e w' => ∃ (a : Option Addr) (cap : Nat), e = .returned (.slice a n cap) ∧ SlK .i64 w' a n l ∧ Below W.heap.size W w') ∧
      Hid (∀ (a b : Option Addr) (ca cb : Nat) (W : World), SlK .i64 W a n l → SlK .i64 W b n l → Calls Tryz.prog 31 #[.slice a n ca, .slice b n cb] W fun e w' => e = .returned (.bool true) ∧ Below W.heap.size W w') := fun c m hc hm => by
    have hl := Im.kinds_len (Im.tellK c m) 6
    exact ⟨_, _, hl, fun W => (imKinds_any c m hc hm W).mono fun e w' h => ik_sl rfl rfl h, fun W => (refKinds_any c m hc hm W).mono fun e w' h => ik_sl rfl rfl h, fun a b ca cb W h1 h2 => Sm.same_self a b _ _ ca cb _ W (Nat.le_trans hl (by omega)) h1 h2⟩
  obtain ⟨n0, l0, hn0, HK0, HR0, HS0⟩ := HX a0c0 a0m1 (wfI w00) (wfI w01)
  obtain ⟨n1, l1, hn1, HK1, HR1, HS1⟩ := HX C M (by unfold Nu.I; omega) (by unfold Nu.I; omega)
  obtain ⟨n2, l2, hn2, HK2, HR2, HS2⟩ := HX C 1 (by unfold Nu.I; omega) (by unfold Nu.I; omega)
  have B1 := box1 w (.cells #[.int .i64 a0c0, .int .i64 a0m1] 29)
  obtain ⟨W1, hW1⟩ : ∃ W1, w.alloc (.cells #[.int .i64 a0c0, .int .i64 a0m1] 29) = W1 := ⟨_, rfl⟩
  have x0 : W1.cell? ⟨w.heap.size, 0, none⟩ = some (.int .i64 a0c0) := by rw [← hW1]; simp [go_sem]
  have x1 : W1.cell? ⟨w.heap.size, 1, none⟩ = some (.int .i64 a0m1) := by rw [← hW1]; simp [go_sem]
  rw [hW1] at B1
  clear w00 w01 HX hC hM hcc hmm
  go_enter Tryz.func5, Tryz.ntmps5
  go_upto_region 1 with fail
  try rw [hW1]
  clear hW1
  go_wp2_with fail
  refine (HFO.out _).mono ?_
  rintro e w2 ⟨rfl, hb2⟩
  replace x0 := cell_later hb2 x0
  replace x1 := cell_later hb2 x1
  have HB2 := Lib.hid (bel_step (w := w) B1 hb2)
  clear hb2 B1 HFO
  go_upto_region 3 with fail
  have hB := box2 w2 (.cells #[.int .i64 C, .int .i64 M] 29) (.cells #[.int .i64 C, .int .i64 1] 29)
  obtain ⟨W, hW⟩ : ∃ W, (w2.alloc (.cells #[.int .i64 C, .int .i64 M] 29)).alloc (.cells #[.int .i64 C, .int .i64 1] 29) = W := ⟨_, rfl⟩
  have y0 : W.cell? ⟨w2.heap.size, 0, none⟩ = some (.int .i64 C) := by rw [← hW]; simp [go_sem]
  have y1 : W.cell? ⟨w2.heap.size, 1, none⟩ = some (.int .i64 M) := by rw [← hW]; simp [go_sem]
  have z0 : W.cell? ⟨w2.heap.size + 1, 0, none⟩ = some (.int .i64 C) := by rw [← hW]; simp [go_sem]
  have z1 : W.cell? ⟨w2.heap.size + 1, 1, none⟩ = some (.int .i64 1) := by rw [← hW]; simp [go_sem]
  rw [hW] at hB
  try rw [hW]
  replace x0 := cell_later hB x0
  replace x1 := cell_later hB x1
  have HB := Lib.hid (HB2.out.trans (hB.mono HB2.out.size))
  clear hW hB HB2
  have hBr : Below W.heap.size W W := .refl _ _
  go_region_held3 (fun w' => w'.cell? ⟨w.heap.size, 0, none⟩ = some (.int .i64 a0c0) ∧ w'.cell? ⟨w.heap.size, 1, none⟩ = some (.int .i64 a0m1) ∧ w'.cell? ⟨w2.heap.size, 0, none⟩ = some (.int .i64 C) ∧ w'.cell? ⟨w2.heap.size, 1, none⟩ = some (.int .i64 M) ∧ w'.cell? ⟨w2.heap.size + 1, 0, none⟩ = some (.int .i64 C) ∧ w'.cell? ⟨w2.heap.size + 1, 1, none⟩ = some (.int .i64 1))
    (first | exact ⟨x0, x1, y0, y1, z0, z1⟩ | exact ⟨cell_later hBr x0, cell_later hBr x1, cell_later hBr y0, cell_later hBr y1, cell_later hBr z0, cell_later hBr z1⟩)
    (first
    | (go_at_call 32; with_reducible refine (HK0.out _).mono ?_; rintro e w9 ⟨a9, c9, rfl, hs9, hb9⟩; replace hBr := bel_step (w := W) (by first | exact hBr | exact hBr.drew) hb9)
    | (go_at_call 15; with_reducible refine (HR0.out _).mono ?_; rintro e w8 ⟨a8, c8, rfl, hs8, hb8⟩; have hs7 := hs9.below hb8; replace hBr := bel_step (w := W) (by first | exact hBr | exact hBr.drew) hb8)
    | (go_at_call 31; with_reducible refine (HS0.out a9 a8 c9 c8 _ hs7 hs8).mono ?_; rintro e w6 ⟨rfl, hb6⟩; replace hBr := bel_step (w := W) (by first | exact hBr | exact hBr.drew) hb6)
    | (go_at_call 32; with_reducible refine (HK1.out _).mono ?_; rintro e w9 ⟨a9, c9, rfl, hs9, hb9⟩; replace hBr := bel_step (w := W) (by first | exact hBr | exact hBr.drew) hb9)
    | (go_at_call 15; with_reducible refine (HR1.out _).mono ?_; rintro e w8 ⟨a8, c8, rfl, hs8, hb8⟩; have hs7 := hs9.below hb8; replace hBr := bel_step (w := W) (by first | exact hBr | exact hBr.drew) hb8)
    | (go_at_call 31; with_reducible refine (HS1.out a9 a8 c9 c8 _ hs7 hs8).mono ?_; rintro e w6 ⟨rfl, hb6⟩; replace hBr := bel_step (w := W) (by first | exact hBr | exact hBr.drew) hb6)
    | (go_at_call 32; with_reducible refine (HK2.out _).mono ?_; rintro e w9 ⟨a9, c9, rfl, hs9, hb9⟩; replace hBr := bel_step (w := W) (by first | exact hBr | exact hBr.drew) hb9)
    | (go_at_call 15; with_reducible refine (HR2.out _).mono ?_; rintro e w8 ⟨a8, c8, rfl, hs8, hb8⟩; have hs7 := hs9.below hb8; replace hBr := bel_step (w := W) (by first | exact hBr | exact hBr.drew) hb8)
    | (go_at_call 31; with_reducible refine (HS2.out a9 a8 c9 c8 _ hs7 hs8).mono ?_; rintro e w6 ⟨rfl, hb6⟩; replace hBr := bel_step (w := W) (by first | exact hBr | exact hBr.drew) hb6)
    | (go_at_call 18; refine (lives10_any _).mono ?_; rintro e w6 ⟨rfl, hb6⟩; replace hBr := bel_step (w := W) (by first | exact hBr | exact hBr.drew) hb6))
  all_goals
    go_wp2
    go_ret
    exact ⟨rfl, HB.out.trans (hBr.mono HB.out.size)⟩
end Go.Proofs.YtooilemglmndeaaGreat

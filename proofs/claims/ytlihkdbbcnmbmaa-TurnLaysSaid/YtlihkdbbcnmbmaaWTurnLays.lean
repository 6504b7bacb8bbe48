/- TurnLays: a matrix that is laid is the document's, or refused; each number stood where it is told: the walk of the law. No condition. -/
import Derived.Test.YtlihkdbbcnmbmaaTurN
import Derived.Test.YtlihkdbbcnmbmaaRecQ
namespace Go.Proofs.Ytlihkdbbcnmbmaa
open Go.RowKit
set_option linter.unusedVariables false

theorem same_zero : (decide ((0 : Int) = 0) && (decide ((0 : Int) = 0) && decide (([] : List Int) = []))) = true := by decide
theorem at_in {p q W H : Nat} (h1 : p < W) (h2 : q < H) : (Rc.insV (p : Int) 1 (W : Int) && Rc.insV (q : Int) 1 (H : Int)) = true := by rw [Bool.and_eq_true, Rc.insV_iff, Rc.insV_iff]; omega
theorem same_nat (a b : Nat) (L : List Int) : (decide ((a : Int) = a) && (decide ((b : Int) = b) && decide (L = L))) = true := by simp
theorem refLayG {most W H g : Nat} {L : List Int} {n : Nat} (h : Mk most W H L) (hm : most ≤ 8) (hg : g < 8) (hn : W * H = n) (a : Option Addr) (c : Nat) (hc : n ≤ c) (hc2 : c ≤ 9223372036854775807) (w : World) (hs : SlK .u64 w a n L) :
    Calls Try.prog 40 #[.agg #[.int .i64 W, .int .i64 H, .slice a n c], .int .i64 g] w fun e w' => ∃ ad cap, e = .returned (.tuple #[.agg #[.int .i64 (Tu.sw g W H : Nat), .int .i64 (Tu.sw g H W : Nat), .slice ad n cap], .int .i64 0]) ∧ SlK .u64 w' ad n (Tu.layL g W H L) ∧ n ≤ cap ∧ cap ≤ 9223372036854775807 ∧ Below w.heap.size w w' := by
  obtain ⟨a1, a2, a3, a4, a5⟩ := h
  have hl : L.length = n := a5.trans hn
  have := refLay_any W H g a c L hg a1 (by omega) a3 (by omega) a5 (by rw [hl]; exact hc) hc2 w (by rw [hl]; exact hs)
  rw [hl, hn] at this
  exact this
set_option maxRecDepth 100000 in
set_option maxHeartbeats 16000000 in
theorem turnLays_walk (a0w0 : Int) (a0h1 : Int) (a0 : Option Addr) (len0 cap0 : Nat) (z0 : List Int) (a1 : Int) (w : World) (w00 : (Lit.int .i64 a0w0).wf = true) (w01 : (Lit.int .i64 a0h1).wf = true) (w02 : IsRow .u64 w a0 len0 cap0 z0) (w1 : (Lit.int .i64 a1).wf = true) :
    Calls Try.prog 6 #[.agg #[.int .i64 a0w0, .int .i64 a0h1, .slice a0 len0 cap0], .int .i64 a1] w fun e w' => e = .returned (.bool true) ∧ Below w.heap.size w w' := by
  obtain ⟨W, H, n, L, hmk, hn, -, hGood⟩ := good_n 6 a0w0 a0h1 a0 len0 cap0 (z0.take len0) (wfI w00) (wfI w01) (by omega) (by omega) (isrow_len w02).1 w (px_take w02 len0) (row_slk w02)
  have hn64 : n ≤ 64 := hn ▸ mk_n hmk (by decide)
  have hn0 : 0 < n := hn ▸ Nat.mul_pos hmk.1 hmk.2.2.1
  have HMK := Lib.hid hmk
  have HNN := Lib.hid hn
  have HLn := Lib.hid (show L.length = n from hmk.2.2.2.2.trans hn)
  have HGD := Lib.hid hGood
  have B := box1 w (.cells #[.int .i64 a0w0, .int .i64 a0h1, .slice a0 len0 cap0] 25)
  clear hmk hn hGood w00 w01 w02 w1
  go_enter Try.func6, Try.ntmps6
  go_wp2_with fail
  refine (HGD.out _ B).mono ?_
  rintro e w1 ⟨ga, gc, rfl, oo, hc1, hc2, hb1⟩
  replace B := bel_step B hb1
  have hb := box1 w1 (.cells #[.int .i64 W, .int .i64 H, .slice ga n gc] 25)
  replace B := bel_step B hb
  have FX := Sb.new w1 25 (.int .i64 W) (.int .i64 H) (.slice ga n gc)
  have SX : SlK .u64 (w1.alloc (.cells #[.int .i64 W, .int .i64 H, .slice ga n gc] 25)) ga n L := by have := (oo.later hb).sl; rwa [HLn.out] at this
  obtain ⟨V1, hV1⟩ : ∃ V, w1.alloc (.cells #[.int .i64 W, .int .i64 H, .slice ga n gc] 25) = V := ⟨_, rfl⟩
  rw [hV1] at B FX SX
  have HB := Lib.hid B
  have HFX := Lib.hid FX
  have HSX := Lib.hid SX
  clear B FX SX oo hb hb1
  go_wp2_with fail
  clear hV1
  go_loopg [6] 9 (fun gg s6 wr => ∃ (k : Nat) (z : Int), k + gg = 9 ∧ z + 1 = k ∧ s6 = .int .i64 z ∧ Below V1.heap.size V1 wr)
  case atStart => exact ⟨0, -1, by omega, by omega, rfl, Below.refl _ _⟩
  case round =>
    obtain ⟨k, z, hk, hz, rfl, hBr⟩ := hrel
    have HBr := Lib.hid hBr
    clear hBr
    cases gk with
    | zero =>
      have hlt : ¬ z < 8 := by omega
      have hBt := HBr.out
      go_wp2_with (go_at_call 47; refine (lives4_any _).mono ?_; rintro e w9 ⟨rfl, hb9⟩; replace hBt := bel_step hBt hb9)
      go_ret
      exact ⟨rfl, bel_step (w := w) HB.out hBt⟩
    | succ gg =>
      have hlt : z < 8 := by omega
      have HK := Lib.hid hk
      have HZ := Lib.hid hz
      by_cases hz0 : z = -1
      · subst hz0
        cases hNT : Tu.isT a1 with
        | false =>
          have HNT := Lib.hid hNT
          have g12 := Tu.isT_no.1 hNT
          clear hNT
          by_cases g1 : 0 ≤ a1
          · have g2 : ¬ a1 < 8 := by omega
            have g3 : decide (a1 < 8) = false := decide_eq_false g2
            clear g12
            obtain ⟨x0, x1, x2⟩ := (HFX.out.later HBr.out).cells
            go_wp2_with fail
            refine (of4_any _ _ _ _ _ _).mono ?_
            rintro e w3 ⟨rfl, hb3⟩
            have C := bel_step HBr.out hb3
            clear hb3 x0 x1 x2
            go_wp2_with fail
            refine (turnLay_arg _ _ _ _ _ _ HNT.out _).mono ?_
            rintro e w4 ⟨rfl, hb4⟩
            replace C := bel_step C hb4
            obtain ⟨x0, x1, x2⟩ := (HFX.out.later C).cells
            have hlt4 : w1.heap.size < w4.heap.size := Nat.lt_of_lt_of_le HFX.out.lt C.size
            have FA := Sb.new w4 26 (.int .i64 0) (.int .i64 0) (.slice none 0 0)
            replace C := C.alloc C.size (.cells #[.int .i64 0, .int .i64 0, .slice none 0 0] 26)
            clear hb4
            go_wp2_with fail
            refine (refLay_arg _ _ _ _ _ _ HNT.out _).mono ?_
            rintro e w5 ⟨rfl, hb5⟩
            replace FA := FA.later hb5
            replace C := bel_step C hb5
            clear x0 x1 x2 hb5
            obtain ⟨x0, x1, x2⟩ := (HFX.out.later C).cells
            have hlt5 : w1.heap.size < w5.heap.size := Nat.lt_of_lt_of_le HFX.out.lt C.size
            have hlt6 : w4.heap.size < w5.heap.size := FA.lt
            go_wp2_with (go_at_call 41; refine (size_no _ _ _ HNT.out _).mono ?_; rintro e w9 ⟨rfl, rfl⟩)
            have FB := Sb.new w5 25 (.int .i64 0) (.int .i64 0) (.slice none 0 0)
            replace FA := FA.alloc (.cells #[.int .i64 0, .int .i64 0, .slice none 0 0] 25)
            replace C := C.alloc C.size (.cells #[.int .i64 0, .int .i64 0, .slice none 0 0] 25)
            obtain ⟨V5, hV5⟩ : ∃ V, w5.alloc (.cells #[.int .i64 0, .int .i64 0, .slice none 0 0] 25) = V := ⟨_, rfl⟩
            rw [hV5] at C FA FB ⊢
            clear hV5 x0 x1 x2 hlt4
            obtain ⟨x0, x1, x2⟩ := (HFX.out.later C).cells
            obtain ⟨a0', a1', a2'⟩ := FA.cells
            obtain ⟨b0', b1', b2'⟩ := FB.cells
            have hBt := Below.refl V5.heap.size V5
            have HC := Lib.hid C
            have HFB := Lib.hid FB
            have HS0 := Lib.hid (fun (W2 : World) => refSame_any 0 0 0 0 none none 0 0 0 0 [] [] W2 (by omega) ⟨rfl, .inl rfl⟩ ⟨rfl, .inl rfl⟩)
            rw [same_zero] at HS0
            clear C FA FB
            try rw [g3]
            go_region_held3 (fun w' => w'.cell? ⟨w4.heap.size, 0, none⟩ = some (.int .i64 0) ∧ w'.cell? ⟨w4.heap.size, 1, none⟩ = some (.int .i64 0) ∧ w'.cell? ⟨w4.heap.size, 2, none⟩ = some (.slice none 0 0) ∧ w'.cell? ⟨w5.heap.size, 0, none⟩ = some (.int .i64 0) ∧ w'.cell? ⟨w5.heap.size, 1, none⟩ = some (.int .i64 0) ∧ w'.cell? ⟨w5.heap.size, 2, none⟩ = some (.slice none 0 0))
              (first | exact ⟨a0', a1', a2', b0', b1', b2'⟩ | exact ⟨cell_later (by repeat' (first | (with_reducible exact hBt) | (with_reducible refine Below.alloc ?_ ?_ _) | (with_reducible refine Below.drew ?_) | (with_reducible refine below_drewN ?_ _) | (with_reducible refine Below.setCell ?_ ?_ _) | exact hBt.size | (have := hBt.size; first | omega | (simp; done) | (simp; omega)))) a0', cell_later (by repeat' (first | (with_reducible exact hBt) | (with_reducible refine Below.alloc ?_ ?_ _) | (with_reducible refine Below.drew ?_) | (with_reducible refine below_drewN ?_ _) | (with_reducible refine Below.setCell ?_ ?_ _) | exact hBt.size | (have := hBt.size; first | omega | (simp; done) | (simp; omega)))) a1', cell_later (by repeat' (first | (with_reducible exact hBt) | (with_reducible refine Below.alloc ?_ ?_ _) | (with_reducible refine Below.drew ?_) | (with_reducible refine below_drewN ?_ _) | (with_reducible refine Below.setCell ?_ ?_ _) | exact hBt.size | (have := hBt.size; first | omega | (simp; done) | (simp; omega)))) a2', cell_later (by repeat' (first | (with_reducible exact hBt) | (with_reducible refine Below.alloc ?_ ?_ _) | (with_reducible refine Below.drew ?_) | (with_reducible refine below_drewN ?_ _) | (with_reducible refine Below.setCell ?_ ?_ _) | exact hBt.size | (have := hBt.size; first | omega | (simp; done) | (simp; omega)))) b0', cell_later (by repeat' (first | (with_reducible exact hBt) | (with_reducible refine Below.alloc ?_ ?_ _) | (with_reducible refine Below.drew ?_) | (with_reducible refine below_drewN ?_ _) | (with_reducible refine Below.setCell ?_ ?_ _) | exact hBt.size | (have := hBt.size; first | omega | (simp; done) | (simp; omega)))) b1', cell_later (by repeat' (first | (with_reducible exact hBt) | (with_reducible refine Below.alloc ?_ ?_ _) | (with_reducible refine Below.drew ?_) | (with_reducible refine below_drewN ?_ _) | (with_reducible refine Below.setCell ?_ ?_ _) | exact hBt.size | (have := hBt.size; first | omega | (simp; done) | (simp; omega)))) b2'⟩)
              (first
                | (go_at_call 42; refine (as4_any _ _ _ _ _ _).mono ?_; rintro e w9 ⟨rfl, hb9⟩; replace hBt := bel_step (w := V5) (by repeat' (first | (with_reducible exact hBt) | (with_reducible refine Below.alloc ?_ ?_ _) | (with_reducible refine Below.drew ?_) | (with_reducible refine below_drewN ?_ _) | (with_reducible refine Below.setCell ?_ ?_ _) | exact hBt.size | (have := hBt.size; first | omega | (simp; done) | (simp; omega)))) hb9; have hsz9 := hBt.size)
                | (go_at_call 18; refine (HS0.out _).mono ?_; rintro e w9 ⟨rfl, hb9⟩; replace hBt := bel_step (w := V5) (by repeat' (first | (with_reducible exact hBt) | (with_reducible refine Below.alloc ?_ ?_ _) | (with_reducible refine Below.drew ?_) | (with_reducible refine below_drewN ?_ _) | (with_reducible refine Below.setCell ?_ ?_ _) | exact hBt.size | (have := hBt.size; first | omega | (simp; done) | (simp; omega)))) hb9; have hsz9 := hBt.size)
                | (go_at_call 43; refine (turnMay_any _ _).mono ?_; rw [HNT.out]; rintro e w9 ⟨rfl, rfl⟩)
                | (go_at_call 44; refine (name_no _ HNT.out _).mono ?_; rintro e w9 ⟨rfl, rfl⟩))
            all_goals
              clear x0 x1 x2 a0' a1' a2' b0' b1' b2'
              have HBT := Lib.hid (show Below V5.heap.size V5 _ from (by repeat' (first | (with_reducible exact hBt) | (with_reducible refine Below.alloc ?_ ?_ _) | (with_reducible refine Below.drew ?_) | (with_reducible refine below_drewN ?_ _) | (with_reducible refine Below.setCell ?_ ?_ _) | exact hBt.size | (have := hBt.size; first | omega | (simp; done) | (simp; omega)))))
              obtain ⟨b0', b1', b2'⟩ := (HFB.out.later HBT.out).cells
              go_wp2
              refine wp_loop_rounds 1 ?_
              rw [rounds_succ]
              go_wp2
              go_roundg gg
              case measure => omega
              case rel => exact ⟨k + 1, 0, by have := HK.out; omega, by have := HZ.out; omega, by go_num, bel_step HC.out HBT.out⟩
          · have g4 : decide (0 ≤ a1) = false := decide_eq_false g1
            have g3 : decide (a1 < 8) = true := decide_eq_true (by omega)
            clear g12
            obtain ⟨x0, x1, x2⟩ := (HFX.out.later HBr.out).cells
            go_wp2_with fail
            refine (of4_any _ _ _ _ _ _).mono ?_
            rintro e w3 ⟨rfl, hb3⟩
            have C := bel_step HBr.out hb3
            clear hb3 x0 x1 x2
            go_wp2_with fail
            refine (turnLay_arg _ _ _ _ _ _ HNT.out _).mono ?_
            rintro e w4 ⟨rfl, hb4⟩
            replace C := bel_step C hb4
            obtain ⟨x0, x1, x2⟩ := (HFX.out.later C).cells
            have hlt4 : w1.heap.size < w4.heap.size := Nat.lt_of_lt_of_le HFX.out.lt C.size
            have FA := Sb.new w4 26 (.int .i64 0) (.int .i64 0) (.slice none 0 0)
            replace C := C.alloc C.size (.cells #[.int .i64 0, .int .i64 0, .slice none 0 0] 26)
            clear hb4
            go_wp2_with fail
            refine (refLay_arg _ _ _ _ _ _ HNT.out _).mono ?_
            rintro e w5 ⟨rfl, hb5⟩
            replace FA := FA.later hb5
            replace C := bel_step C hb5
            clear x0 x1 x2 hb5
            obtain ⟨x0, x1, x2⟩ := (HFX.out.later C).cells
            have hlt5 : w1.heap.size < w5.heap.size := Nat.lt_of_lt_of_le HFX.out.lt C.size
            have hlt6 : w4.heap.size < w5.heap.size := FA.lt
            go_wp2_with (go_at_call 41; refine (size_no _ _ _ HNT.out _).mono ?_; rintro e w9 ⟨rfl, rfl⟩)
            have FB := Sb.new w5 25 (.int .i64 0) (.int .i64 0) (.slice none 0 0)
            replace FA := FA.alloc (.cells #[.int .i64 0, .int .i64 0, .slice none 0 0] 25)
            replace C := C.alloc C.size (.cells #[.int .i64 0, .int .i64 0, .slice none 0 0] 25)
            obtain ⟨V5, hV5⟩ : ∃ V, w5.alloc (.cells #[.int .i64 0, .int .i64 0, .slice none 0 0] 25) = V := ⟨_, rfl⟩
            rw [hV5] at C FA FB ⊢
            clear hV5 x0 x1 x2 hlt4
            obtain ⟨x0, x1, x2⟩ := (HFX.out.later C).cells
            obtain ⟨a0', a1', a2'⟩ := FA.cells
            obtain ⟨b0', b1', b2'⟩ := FB.cells
            have hBt := Below.refl V5.heap.size V5
            have HC := Lib.hid C
            have HFB := Lib.hid FB
            have HS0 := Lib.hid (fun (W2 : World) => refSame_any 0 0 0 0 none none 0 0 0 0 [] [] W2 (by omega) ⟨rfl, .inl rfl⟩ ⟨rfl, .inl rfl⟩)
            rw [same_zero] at HS0
            clear C FA FB
            try rw [g3]
            go_region_held3 (fun w' => w'.cell? ⟨w4.heap.size, 0, none⟩ = some (.int .i64 0) ∧ w'.cell? ⟨w4.heap.size, 1, none⟩ = some (.int .i64 0) ∧ w'.cell? ⟨w4.heap.size, 2, none⟩ = some (.slice none 0 0) ∧ w'.cell? ⟨w5.heap.size, 0, none⟩ = some (.int .i64 0) ∧ w'.cell? ⟨w5.heap.size, 1, none⟩ = some (.int .i64 0) ∧ w'.cell? ⟨w5.heap.size, 2, none⟩ = some (.slice none 0 0))
              (first | exact ⟨a0', a1', a2', b0', b1', b2'⟩ | exact ⟨cell_later (by repeat' (first | (with_reducible exact hBt) | (with_reducible refine Below.alloc ?_ ?_ _) | (with_reducible refine Below.drew ?_) | (with_reducible refine below_drewN ?_ _) | (with_reducible refine Below.setCell ?_ ?_ _) | exact hBt.size | (have := hBt.size; first | omega | (simp; done) | (simp; omega)))) a0', cell_later (by repeat' (first | (with_reducible exact hBt) | (with_reducible refine Below.alloc ?_ ?_ _) | (with_reducible refine Below.drew ?_) | (with_reducible refine below_drewN ?_ _) | (with_reducible refine Below.setCell ?_ ?_ _) | exact hBt.size | (have := hBt.size; first | omega | (simp; done) | (simp; omega)))) a1', cell_later (by repeat' (first | (with_reducible exact hBt) | (with_reducible refine Below.alloc ?_ ?_ _) | (with_reducible refine Below.drew ?_) | (with_reducible refine below_drewN ?_ _) | (with_reducible refine Below.setCell ?_ ?_ _) | exact hBt.size | (have := hBt.size; first | omega | (simp; done) | (simp; omega)))) a2', cell_later (by repeat' (first | (with_reducible exact hBt) | (with_reducible refine Below.alloc ?_ ?_ _) | (with_reducible refine Below.drew ?_) | (with_reducible refine below_drewN ?_ _) | (with_reducible refine Below.setCell ?_ ?_ _) | exact hBt.size | (have := hBt.size; first | omega | (simp; done) | (simp; omega)))) b0', cell_later (by repeat' (first | (with_reducible exact hBt) | (with_reducible refine Below.alloc ?_ ?_ _) | (with_reducible refine Below.drew ?_) | (with_reducible refine below_drewN ?_ _) | (with_reducible refine Below.setCell ?_ ?_ _) | exact hBt.size | (have := hBt.size; first | omega | (simp; done) | (simp; omega)))) b1', cell_later (by repeat' (first | (with_reducible exact hBt) | (with_reducible refine Below.alloc ?_ ?_ _) | (with_reducible refine Below.drew ?_) | (with_reducible refine below_drewN ?_ _) | (with_reducible refine Below.setCell ?_ ?_ _) | exact hBt.size | (have := hBt.size; first | omega | (simp; done) | (simp; omega)))) b2'⟩)
              (first
                | (go_at_call 42; refine (as4_any _ _ _ _ _ _).mono ?_; rintro e w9 ⟨rfl, hb9⟩; replace hBt := bel_step (w := V5) (by repeat' (first | (with_reducible exact hBt) | (with_reducible refine Below.alloc ?_ ?_ _) | (with_reducible refine Below.drew ?_) | (with_reducible refine below_drewN ?_ _) | (with_reducible refine Below.setCell ?_ ?_ _) | exact hBt.size | (have := hBt.size; first | omega | (simp; done) | (simp; omega)))) hb9; have hsz9 := hBt.size)
                | (go_at_call 18; refine (HS0.out _).mono ?_; rintro e w9 ⟨rfl, hb9⟩; replace hBt := bel_step (w := V5) (by repeat' (first | (with_reducible exact hBt) | (with_reducible refine Below.alloc ?_ ?_ _) | (with_reducible refine Below.drew ?_) | (with_reducible refine below_drewN ?_ _) | (with_reducible refine Below.setCell ?_ ?_ _) | exact hBt.size | (have := hBt.size; first | omega | (simp; done) | (simp; omega)))) hb9; have hsz9 := hBt.size)
                | (go_at_call 43; refine (turnMay_any _ _).mono ?_; rw [HNT.out]; rintro e w9 ⟨rfl, rfl⟩)
                | (go_at_call 44; refine (name_no _ HNT.out _).mono ?_; rintro e w9 ⟨rfl, rfl⟩))
            all_goals
              clear x0 x1 x2 a0' a1' a2' b0' b1' b2'
              have HBT := Lib.hid (show Below V5.heap.size V5 _ from (by repeat' (first | (with_reducible exact hBt) | (with_reducible refine Below.alloc ?_ ?_ _) | (with_reducible refine Below.drew ?_) | (with_reducible refine below_drewN ?_ _) | (with_reducible refine Below.setCell ?_ ?_ _) | exact hBt.size | (have := hBt.size; first | omega | (simp; done) | (simp; omega)))))
              obtain ⟨b0', b1', b2'⟩ := (HFB.out.later HBT.out).cells
              go_wp2
              refine wp_loop_rounds 1 ?_
              rw [rounds_succ]
              go_wp2
              go_roundg gg
              case measure => omega
              case rel => exact ⟨k + 1, 0, by have := HK.out; omega, by have := HZ.out; omega, by go_num, bel_step HC.out HBT.out⟩
        | true =>
          obtain ⟨m, hm8, rfl⟩ := Tu.isT_nat hNT
          have HNT := Lib.hid hNT
          have g1 : (0 : Int) ≤ (m : Int) := by omega
          have g2 : (m : Int) < 8 := by omega
          have g3 : decide ((m : Int) < 8) = true := decide_eq_true g2
          clear hNT
          have hL1 := fun a c h1 h2 W2 h3 => layG HMK.out (by decide) hm8 HNN.out a c h1 h2 W2 h3
          have hL2 := fun a c h1 h2 W2 h3 => refLayG HMK.out (by decide) hm8 HNN.out a c h1 h2 W2 h3
          have hSz := fun W2 => size_any W H m hm8 W2
          have hFr := fun x y h1 h2 W2 => from_any W H m x y hm8 (by have := HMK.out.2.1; omega) (by have := HMK.out.2.2.2.1; omega) h1 h2 W2
          have hGt := fun i (hi : i < W * H) => Tu.lay_get (L := L) hm8 hi
          have hBn : (Tu.layL m W H L).length = n := by rw [Tu.layL_len]; exact HNN.out
          have HM8 := Lib.hid hm8
          obtain ⟨bw, hBW⟩ : ∃ v, Tu.sw m W H = v := ⟨_, rfl⟩
          obtain ⟨bh, hBH⟩ : ∃ v, Tu.sw m H W = v := ⟨_, rfl⟩
          obtain ⟨BL, hBL⟩ : ∃ v, Tu.layL m W H L = v := ⟨_, rfl⟩
          rw [hBW, hBH, hBL] at hL1 hL2
          rw [hBW, hBH] at hSz hFr
          simp only [hBW, hBH, hBL] at hGt
          rw [hBL] at hBn
          have HL1 := Lib.hid hL1
          have HL2 := Lib.hid hL2
          have HSZ := Lib.hid hSz
          have HFR := Lib.hid hFr
          have HGT := Lib.hid hGt
          have HBN := Lib.hid hBn
          have HDW := Lib.hid (show Tu.sw m W H = bw ∧ Tu.sw m H W = bh from ⟨hBW, hBH⟩)
          clear hL1 hL2 hSz hFr hGt hBn hBW hBH hBL
          obtain ⟨x0, x1, x2⟩ := (HFX.out.later HBr.out).cells
          go_wp2_with fail
          refine (of4_any _ _ _ _ _ _).mono ?_
          rintro e w3 ⟨rfl, hb3⟩
          have C := bel_step HBr.out hb3
          clear hb3 x0 x1 x2
          go_wp2_with fail
          refine (HL1.out ga gc hc1 hc2 _ (HSX.out.below C)).mono ?_
          rintro e w4 ⟨gA, rfl, oo, hb4⟩
          have FA := Sb.new w4 26 (.int .i64 bw) (.int .i64 bh) (.slice (some ⟨gA, 0, none⟩) n n)
          have SA : SlK .u64 (w4.alloc (.cells #[.int .i64 bw, .int .i64 bh, .slice (some ⟨gA, 0, none⟩) n n] 26)) (some ⟨gA, 0, none⟩) n BL := by have := (OwnG.alloc oo (.cells #[.int .i64 bw, .int .i64 bh, .slice (some ⟨gA, 0, none⟩) n n] 26)).sl; rwa [HBN.out] at this
          replace C := (bel_step C hb4).alloc (bel_step C hb4).size (.cells #[.int .i64 bw, .int .i64 bh, .slice (some ⟨gA, 0, none⟩) n n] 26)
          obtain ⟨V4, hV4⟩ : ∃ V, w4.alloc (.cells #[.int .i64 bw, .int .i64 bh, .slice (some ⟨gA, 0, none⟩) n n] 26) = V := ⟨_, rfl⟩
          have hz4 : w4.heap.size < V4.heap.size := by rw [← hV4]; simp
          rw [hV4] at C FA SA
          obtain ⟨x0, x1, x2⟩ := (HFX.out.later C).cells
          clear hb4 oo
          go_wp2_with fail
          refine (HL2.out ga gc hc1 hc2 _ (HSX.out.below C)).mono ?_
          rintro e w5 ⟨gb, gd, rfl, oo, hd1, hd2, hb5⟩
          obtain ⟨bb, off, rfl, hcell5⟩ := slk_pos oo hn0
          have hcl : ∀ i, i < n → (w5.alloc (.cells #[.int .i64 bw, .int .i64 bh, .slice (some ⟨bb, off, none⟩) n gd] 25)).cell? ⟨bb, off + i, none⟩ = some (.int .u64 (BL.getD i 0)) := fun i hi => cell_later (box1 w5 (.cells #[.int .i64 bw, .int .i64 bh, .slice (some ⟨bb, off, none⟩) n gd] 25)) (hcell5 i hi)
          clear hcell5
          have FB := Sb.new w5 25 (.int .i64 bw) (.int .i64 bh) (.slice (some ⟨bb, off, none⟩) n gd)
          have SB : SlK .u64 (w5.alloc (.cells #[.int .i64 bw, .int .i64 bh, .slice (some ⟨bb, off, none⟩) n gd] 25)) (some ⟨bb, off, none⟩) n BL := oo.below (box1 _ _)
          replace FA := (FA.later hb5).alloc (.cells #[.int .i64 bw, .int .i64 bh, .slice (some ⟨bb, off, none⟩) n gd] 25)
          replace SA := (SA.below hb5).below (box1 w5 (.cells #[.int .i64 bw, .int .i64 bh, .slice (some ⟨bb, off, none⟩) n gd] 25))
          replace C := (bel_step C hb5).alloc (bel_step C hb5).size (.cells #[.int .i64 bw, .int .i64 bh, .slice (some ⟨bb, off, none⟩) n gd] 25)
          obtain ⟨V5, hV5⟩ : ∃ V, w5.alloc (.cells #[.int .i64 bw, .int .i64 bh, .slice (some ⟨bb, off, none⟩) n gd] 25) = V := ⟨_, rfl⟩
          have hz5 : w5.heap.size < V5.heap.size := by rw [← hV5]; simp
          rw [hV5] at C FA FB SA SB hcl
          have HCL := Lib.hid hcl
          clear hcl
          clear hb5 x0 x1 x2 oo
          obtain ⟨x0, x1, x2⟩ := (HFX.out.later C).cells
          obtain ⟨a0', a1', a2'⟩ := FA.cells
          obtain ⟨b0', b1', b2'⟩ := FB.cells
          have hBt := Below.refl V5.heap.size V5
          have HC := Lib.hid C
          have HFB := Lib.hid FB
          have HSA := Lib.hid SA
          have HSB := Lib.hid SB
          have HS0 := Lib.hid (fun (a b : Option Addr) (c : Nat) (W2 : World) h1 h2 => refSame_any bw bh bw bh a b n n n c BL BL W2 (by omega) h1 h2)
          rw [same_nat] at HS0
          clear C FA FB SA SB hz4 hz5 hV4
          go_wp2_with (go_at_call 41; refine (HSZ.out _).mono ?_; rintro e w9 ⟨rfl, rfl⟩)
          clear hV5
          try rw [g3]
          go_region_held3 (fun w' => w'.cell? ⟨w4.heap.size, 0, none⟩ = some (.int .i64 bw) ∧ w'.cell? ⟨w4.heap.size, 1, none⟩ = some (.int .i64 bh) ∧ w'.cell? ⟨w4.heap.size, 2, none⟩ = some (.slice (some ⟨gA, 0, none⟩) n n) ∧ w'.cell? ⟨w5.heap.size, 0, none⟩ = some (.int .i64 bw) ∧ w'.cell? ⟨w5.heap.size, 1, none⟩ = some (.int .i64 bh) ∧ w'.cell? ⟨w5.heap.size, 2, none⟩ = some (.slice (some ⟨bb, off, none⟩) n gd))
            (first | exact ⟨a0', a1', a2', b0', b1', b2'⟩ | exact ⟨cell_later (by repeat' (first | (with_reducible exact hBt) | (with_reducible refine Below.alloc ?_ ?_ _) | (with_reducible refine Below.drew ?_) | (with_reducible refine below_drewN ?_ _) | (with_reducible refine Below.setCell ?_ ?_ _) | exact hBt.size | (have := hBt.size; first | omega | (simp; done) | (simp; omega)))) a0', cell_later (by repeat' (first | (with_reducible exact hBt) | (with_reducible refine Below.alloc ?_ ?_ _) | (with_reducible refine Below.drew ?_) | (with_reducible refine below_drewN ?_ _) | (with_reducible refine Below.setCell ?_ ?_ _) | exact hBt.size | (have := hBt.size; first | omega | (simp; done) | (simp; omega)))) a1', cell_later (by repeat' (first | (with_reducible exact hBt) | (with_reducible refine Below.alloc ?_ ?_ _) | (with_reducible refine Below.drew ?_) | (with_reducible refine below_drewN ?_ _) | (with_reducible refine Below.setCell ?_ ?_ _) | exact hBt.size | (have := hBt.size; first | omega | (simp; done) | (simp; omega)))) a2', cell_later (by repeat' (first | (with_reducible exact hBt) | (with_reducible refine Below.alloc ?_ ?_ _) | (with_reducible refine Below.drew ?_) | (with_reducible refine below_drewN ?_ _) | (with_reducible refine Below.setCell ?_ ?_ _) | exact hBt.size | (have := hBt.size; first | omega | (simp; done) | (simp; omega)))) b0', cell_later (by repeat' (first | (with_reducible exact hBt) | (with_reducible refine Below.alloc ?_ ?_ _) | (with_reducible refine Below.drew ?_) | (with_reducible refine below_drewN ?_ _) | (with_reducible refine Below.setCell ?_ ?_ _) | exact hBt.size | (have := hBt.size; first | omega | (simp; done) | (simp; omega)))) b1', cell_later (by repeat' (first | (with_reducible exact hBt) | (with_reducible refine Below.alloc ?_ ?_ _) | (with_reducible refine Below.drew ?_) | (with_reducible refine below_drewN ?_ _) | (with_reducible refine Below.setCell ?_ ?_ _) | exact hBt.size | (have := hBt.size; first | omega | (simp; done) | (simp; omega)))) b2'⟩)
            (first
              | (go_at_call 42; refine (as4_any _ _ _ _ _ _).mono ?_; rintro e w9 ⟨rfl, hb9⟩; replace hBt := bel_step (w := V5) (by repeat' (first | (with_reducible exact hBt) | (with_reducible refine Below.alloc ?_ ?_ _) | (with_reducible refine Below.drew ?_) | (with_reducible refine below_drewN ?_ _) | (with_reducible refine Below.setCell ?_ ?_ _) | exact hBt.size | (have := hBt.size; first | omega | (simp; done) | (simp; omega)))) hb9; have hsz9 := hBt.size)
              | (go_at_call 18; refine (HS0.out (some ⟨gA, 0, none⟩) (some ⟨bb, off, none⟩) gd _ (HSA.out.below (by repeat' (first | (with_reducible exact hBt) | (with_reducible refine Below.alloc ?_ ?_ _) | (with_reducible refine Below.drew ?_) | (with_reducible refine below_drewN ?_ _) | (with_reducible refine Below.setCell ?_ ?_ _) | exact hBt.size | (have := hBt.size; first | omega | (simp; done) | (simp; omega))))) (HSB.out.below (by repeat' (first | (with_reducible exact hBt) | (with_reducible refine Below.alloc ?_ ?_ _) | (with_reducible refine Below.drew ?_) | (with_reducible refine below_drewN ?_ _) | (with_reducible refine Below.setCell ?_ ?_ _) | exact hBt.size | (have := hBt.size; first | omega | (simp; done) | (simp; omega)))))).mono ?_; rintro e w9 ⟨rfl, hb9⟩; replace hBt := bel_step (w := V5) (by repeat' (first | (with_reducible exact hBt) | (with_reducible refine Below.alloc ?_ ?_ _) | (with_reducible refine Below.drew ?_) | (with_reducible refine below_drewN ?_ _) | (with_reducible refine Below.setCell ?_ ?_ _) | exact hBt.size | (have := hBt.size; first | omega | (simp; done) | (simp; omega)))) hb9; have hsz9 := hBt.size)
              | (go_at_call 43; refine (turnMay_any _ _).mono ?_; rw [HNT.out]; rintro e w9 ⟨rfl, rfl⟩)
              | (go_at_call 44; refine (name_ne _ HNT.out _).mono ?_; rintro e w9 ⟨s9, rfl, hs9, hs8, rfl⟩))
          all_goals
            clear x0 x1 x2 a0' a1' a2' b0' b1' b2'
            have HBT := Lib.hid (show Below V5.heap.size V5 _ from (by repeat' (first | (with_reducible exact hBt) | (with_reducible refine Below.alloc ?_ ?_ _) | (with_reducible refine Below.drew ?_) | (with_reducible refine below_drewN ?_ _) | (with_reducible refine Below.setCell ?_ ?_ _) | exact hBt.size | (have := hBt.size; first | omega | (simp; done) | (simp; omega)))))
            obtain ⟨b0', b1', b2'⟩ := (HFB.out.later HBT.out).cells
            go_wp2
            clear b0' b1' b2'
            go_loopg [15] n (fun g2 s15 wy => ∃ i : Nat, i + g2 = n ∧ s15 = .int .i64 i ∧ Below V5.heap.size V5 wy)
            case atStart => exact ⟨0, by omega, rfl, HBT.out⟩
            case round =>
              obtain ⟨i, hi, rfl, hBy⟩ := hrel
              have HBy := Lib.hid hBy
              clear hBy
              obtain ⟨b0', b1', b2'⟩ := (HFB.out.later HBy.out).cells
              cases gk with
              | zero =>
                have hlt2 : ¬ (i : Int) < (n : Int) := by omega
                go_wp2
                go_roundg gg
                case measure => omega
                case rel => exact ⟨k + 1, 0, by have := HK.out; omega, by have := HZ.out; omega, by go_num, bel_step HC.out HBy.out⟩
              | succ g2 =>
                have hin : i < n := by omega
                have hlt2 : (i : Int) < (n : Int) := by omega
                obtain ⟨q1, q2, q3⟩ := HGT.out i (by rw [HNN.out]; exact hin)
                have hsrc := Tu.src_in (w := W) (h := H) HM8.out (by rw [HDW.out.1]; exact q1) (by rw [HDW.out.2]; exact q2)
                have hF := Lib.hid (HFR.out _ _ q1 q2)
                have hle : i / bw ≤ i := Nat.div_le_self _ _
                have hnz3 : ¬ bw = 0 := by intro h; rw [h] at q1; exact absurd q1 (Nat.not_lt_zero _)
                obtain ⟨p, hp⟩ : ∃ p, Tu.sx m W H (i % bw) (i / bw) = p := ⟨_, rfl⟩
                obtain ⟨q, hq⟩ : ∃ q, Tu.sy m W H (i % bw) (i / bw) = q := ⟨_, rfl⟩
                rw [hp, hq] at hF hsrc q3
                obtain ⟨u, hu⟩ : ∃ u, Tu.atL L W p q = u := ⟨_, rfl⟩
                rw [hu] at q3
                have hval : Rc.atV W H L (p : Int) (q : Int) = (u, true) := by
                  unfold Rc.atV
                  rw [if_pos (at_in hsrc.1 hsrc.2), ← hu]
                  simp only [Tu.atL, Int.toNat_natCast]
                have hAt := fun W2 h => refAt_any W H p q ga gc L (mk_ok HMK.out (by decide)) (by rw [HLn.out]; exact hc1) hc2 W2 h
                rw [hval, HLn.out] at hAt
                have HAT := Lib.hid hAt
                have HQ3 := Lib.hid q3
                obtain ⟨x0, x1, x2⟩ := (HFX.out.later (bel_step HC.out HBy.out)).cells
                have hrem : (i : Int).tmod (bw : Int) = ((i % bw : Nat) : Int) := nat_tmod _ _
                have hquo : (i : Int).tdiv (bw : Int) = ((i / bw : Nat) : Int) := nat_tdiv _ _
                have hnz : ((bw : Int) == 0) = false := by simp; exact hnz3
                have hnz2 : ¬ (bw : Int) = 0 := by simp; exact hnz3
                have hnz4 : (bw == 0) = false := by simp; exact hnz3
                obtain ⟨x, hx⟩ : ∃ x, i % bw = x := ⟨_, rfl⟩
                obtain ⟨y, hy⟩ : ∃ y, i / bw = y := ⟨_, rfl⟩
                rw [hx, hy] at hF
                rw [hx] at hrem
                rw [hy] at hquo hle
                have hq2 : IntKind.i64.wrap (y : Int) = y := i64n (Nat.le_trans hle (Nat.le_trans (Nat.le_of_lt hin) (Nat.le_trans hn64 (by decide))))
                clear hp hq hx hy hu hval hAt q1 q2 q3 hsrc hle
                have hBt := Below.refl wr.heap.size wr
                go_wp2_with fail
                go_region_held3 (fun w' => w'.cell? ⟨w1.heap.size, 0, none⟩ = some (.int .i64 W) ∧ w'.cell? ⟨w1.heap.size, 1, none⟩ = some (.int .i64 H) ∧ w'.cell? ⟨w5.heap.size, 0, none⟩ = some (.int .i64 bw))
                  (first | exact ⟨x0, x1, b0'⟩ | exact ⟨cell_later (by repeat' (first | (with_reducible exact hBt) | (with_reducible refine Below.alloc ?_ ?_ _) | (with_reducible refine Below.drew ?_) | (with_reducible refine below_drewN ?_ _) | (with_reducible refine Below.setCell ?_ ?_ _) | exact hBt.size | (have := hBt.size; first | omega | (simp; done) | (simp; omega)))) x0, cell_later (by repeat' (first | (with_reducible exact hBt) | (with_reducible refine Below.alloc ?_ ?_ _) | (with_reducible refine Below.drew ?_) | (with_reducible refine below_drewN ?_ _) | (with_reducible refine Below.setCell ?_ ?_ _) | exact hBt.size | (have := hBt.size; first | omega | (simp; done) | (simp; omega)))) x1, cell_later (by repeat' (first | (with_reducible exact hBt) | (with_reducible refine Below.alloc ?_ ?_ _) | (with_reducible refine Below.drew ?_) | (with_reducible refine below_drewN ?_ _) | (with_reducible refine Below.setCell ?_ ?_ _) | exact hBt.size | (have := hBt.size; first | omega | (simp; done) | (simp; omega)))) b0'⟩)
                  (first
                    | (go_at_call 45; refine (hF.out _).mono ?_; rintro e w9 ⟨rfl, hb9⟩; replace hBt := bel_step (w := wr) (by repeat' (first | (with_reducible exact hBt) | (with_reducible refine Below.alloc ?_ ?_ _) | (with_reducible refine Below.drew ?_) | (with_reducible refine below_drewN ?_ _) | (with_reducible refine Below.setCell ?_ ?_ _) | exact hBt.size | (have := hBt.size; first | omega | (simp; done) | (simp; omega)))) hb9; have hsz9 := hBt.size))
                clear hrem hquo hnz hnz2 hnz3 hnz4 hq2
                all_goals
                  clear x0 x1 x2 b0' b1' b2'
                  have HBU := Lib.hid (show Below wr.heap.size wr _ from (by repeat' (first | (with_reducible exact hBt) | (with_reducible refine Below.alloc ?_ ?_ _) | (with_reducible refine Below.drew ?_) | (with_reducible refine below_drewN ?_ _) | (with_reducible refine Below.setCell ?_ ?_ _) | exact hBt.size | (have := hBt.size; first | omega | (simp; done) | (simp; omega)))))
                  have HBZ := Lib.hid (bel_step HBy.out HBU.out)
                  obtain ⟨x0, x1, x2⟩ := (HFX.out.later (bel_step HC.out HBZ.out)).cells
                  clear hBt
                  go_wp2_with fail
                  refine (HAT.out _ (HSX.out.below (bel_step HC.out HBZ.out))).mono ?_
                  rintro e w7 ⟨rfl, hb7⟩
                  have HB7 := Lib.hid (bel_step HBZ.out hb7)
                  clear x0 x1 x2 hb7
                  obtain ⟨b0', b1', b2'⟩ := (HFB.out.later HB7.out).cells
                  have hcw := cell_later HB7.out (show V5.cell? ⟨bb, off + i, none⟩ = some (.int .u64 u) from by rw [HCL.out i hin, HQ3.out])
                  go_wp2
                  go_roundg g2
                  case measure => omega
                  case rel => exact ⟨i + 1, by omega, by go_num, HB7.out⟩
      · obtain ⟨m, rfl⟩ : ∃ m : Nat, z = m := ⟨z.toNat, by omega⟩
        have hm8 : m < 8 := by omega
        have HNT := Lib.hid (show Tu.isT (m : Int) = true by rw [Tu.isT_iff]; omega)
        have g1 : (0 : Int) ≤ (m : Int) := by omega
        have g2 : ¬ (m : Int) < 0 := by omega
        have g3 : decide ((m : Int) < 8) = true := decide_eq_true (by omega)
        clear hz0
        have hL1 := fun a c h1 h2 W2 h3 => layG HMK.out (by decide) hm8 HNN.out a c h1 h2 W2 h3
        have hL2 := fun a c h1 h2 W2 h3 => refLayG HMK.out (by decide) hm8 HNN.out a c h1 h2 W2 h3
        have hSz := fun W2 => size_any W H m hm8 W2
        have hFr := fun x y h1 h2 W2 => from_any W H m x y hm8 (by have := HMK.out.2.1; omega) (by have := HMK.out.2.2.2.1; omega) h1 h2 W2
        have hGt := fun i (hi : i < W * H) => Tu.lay_get (L := L) hm8 hi
        have hBn : (Tu.layL m W H L).length = n := by rw [Tu.layL_len]; exact HNN.out
        have HM8 := Lib.hid hm8
        obtain ⟨bw, hBW⟩ : ∃ v, Tu.sw m W H = v := ⟨_, rfl⟩
        obtain ⟨bh, hBH⟩ : ∃ v, Tu.sw m H W = v := ⟨_, rfl⟩
        obtain ⟨BL, hBL⟩ : ∃ v, Tu.layL m W H L = v := ⟨_, rfl⟩
        rw [hBW, hBH, hBL] at hL1 hL2
        rw [hBW, hBH] at hSz hFr
        simp only [hBW, hBH, hBL] at hGt
        rw [hBL] at hBn
        have HL1 := Lib.hid hL1
        have HL2 := Lib.hid hL2
        have HSZ := Lib.hid hSz
        have HFR := Lib.hid hFr
        have HGT := Lib.hid hGt
        have HBN := Lib.hid hBn
        have HDW := Lib.hid (show Tu.sw m W H = bw ∧ Tu.sw m H W = bh from ⟨hBW, hBH⟩)
        clear hL1 hL2 hSz hFr hGt hBn hBW hBH hBL
        obtain ⟨x0, x1, x2⟩ := (HFX.out.later HBr.out).cells
        go_wp2_with fail
        refine (of4_any _ _ _ _ _ _).mono ?_
        rintro e w3 ⟨rfl, hb3⟩
        have C := bel_step HBr.out hb3
        clear hb3 x0 x1 x2
        go_wp2_with fail
        refine (HL1.out ga gc hc1 hc2 _ (HSX.out.below C)).mono ?_
        rintro e w4 ⟨gA, rfl, oo, hb4⟩
        have FA := Sb.new w4 26 (.int .i64 bw) (.int .i64 bh) (.slice (some ⟨gA, 0, none⟩) n n)
        have SA : SlK .u64 (w4.alloc (.cells #[.int .i64 bw, .int .i64 bh, .slice (some ⟨gA, 0, none⟩) n n] 26)) (some ⟨gA, 0, none⟩) n BL := by have := (OwnG.alloc oo (.cells #[.int .i64 bw, .int .i64 bh, .slice (some ⟨gA, 0, none⟩) n n] 26)).sl; rwa [HBN.out] at this
        replace C := (bel_step C hb4).alloc (bel_step C hb4).size (.cells #[.int .i64 bw, .int .i64 bh, .slice (some ⟨gA, 0, none⟩) n n] 26)
        obtain ⟨V4, hV4⟩ : ∃ V, w4.alloc (.cells #[.int .i64 bw, .int .i64 bh, .slice (some ⟨gA, 0, none⟩) n n] 26) = V := ⟨_, rfl⟩
        have hz4 : w4.heap.size < V4.heap.size := by rw [← hV4]; simp
        rw [hV4] at C FA SA
        obtain ⟨x0, x1, x2⟩ := (HFX.out.later C).cells
        clear hb4 oo
        go_wp2_with fail
        refine (HL2.out ga gc hc1 hc2 _ (HSX.out.below C)).mono ?_
        rintro e w5 ⟨gb, gd, rfl, oo, hd1, hd2, hb5⟩
        obtain ⟨bb, off, rfl, hcell5⟩ := slk_pos oo hn0
        have hcl : ∀ i, i < n → (w5.alloc (.cells #[.int .i64 bw, .int .i64 bh, .slice (some ⟨bb, off, none⟩) n gd] 25)).cell? ⟨bb, off + i, none⟩ = some (.int .u64 (BL.getD i 0)) := fun i hi => cell_later (box1 w5 (.cells #[.int .i64 bw, .int .i64 bh, .slice (some ⟨bb, off, none⟩) n gd] 25)) (hcell5 i hi)
        clear hcell5
        have FB := Sb.new w5 25 (.int .i64 bw) (.int .i64 bh) (.slice (some ⟨bb, off, none⟩) n gd)
        have SB : SlK .u64 (w5.alloc (.cells #[.int .i64 bw, .int .i64 bh, .slice (some ⟨bb, off, none⟩) n gd] 25)) (some ⟨bb, off, none⟩) n BL := oo.below (box1 _ _)
        replace FA := (FA.later hb5).alloc (.cells #[.int .i64 bw, .int .i64 bh, .slice (some ⟨bb, off, none⟩) n gd] 25)
        replace SA := (SA.below hb5).below (box1 w5 (.cells #[.int .i64 bw, .int .i64 bh, .slice (some ⟨bb, off, none⟩) n gd] 25))
        replace C := (bel_step C hb5).alloc (bel_step C hb5).size (.cells #[.int .i64 bw, .int .i64 bh, .slice (some ⟨bb, off, none⟩) n gd] 25)
        obtain ⟨V5, hV5⟩ : ∃ V, w5.alloc (.cells #[.int .i64 bw, .int .i64 bh, .slice (some ⟨bb, off, none⟩) n gd] 25) = V := ⟨_, rfl⟩
        have hz5 : w5.heap.size < V5.heap.size := by rw [← hV5]; simp
        rw [hV5] at C FA FB SA SB hcl
        have HCL := Lib.hid hcl
        clear hcl
        clear hb5 x0 x1 x2 oo
        obtain ⟨x0, x1, x2⟩ := (HFX.out.later C).cells
        obtain ⟨a0', a1', a2'⟩ := FA.cells
        obtain ⟨b0', b1', b2'⟩ := FB.cells
        have hBt := Below.refl V5.heap.size V5
        have HC := Lib.hid C
        have HFB := Lib.hid FB
        have HSA := Lib.hid SA
        have HSB := Lib.hid SB
        have HS0 := Lib.hid (fun (a b : Option Addr) (c : Nat) (W2 : World) h1 h2 => refSame_any bw bh bw bh a b n n n c BL BL W2 (by omega) h1 h2)
        rw [same_nat] at HS0
        clear C FA FB SA SB hz4 hz5 hV4
        go_wp2_with (go_at_call 41; refine (HSZ.out _).mono ?_; rintro e w9 ⟨rfl, rfl⟩)
        clear hV5
        try rw [g3]
        go_region_held3 (fun w' => w'.cell? ⟨w4.heap.size, 0, none⟩ = some (.int .i64 bw) ∧ w'.cell? ⟨w4.heap.size, 1, none⟩ = some (.int .i64 bh) ∧ w'.cell? ⟨w4.heap.size, 2, none⟩ = some (.slice (some ⟨gA, 0, none⟩) n n) ∧ w'.cell? ⟨w5.heap.size, 0, none⟩ = some (.int .i64 bw) ∧ w'.cell? ⟨w5.heap.size, 1, none⟩ = some (.int .i64 bh) ∧ w'.cell? ⟨w5.heap.size, 2, none⟩ = some (.slice (some ⟨bb, off, none⟩) n gd))
          (first | exact ⟨a0', a1', a2', b0', b1', b2'⟩ | exact ⟨cell_later (by repeat' (first | (with_reducible exact hBt) | (with_reducible refine Below.alloc ?_ ?_ _) | (with_reducible refine Below.drew ?_) | (with_reducible refine below_drewN ?_ _) | (with_reducible refine Below.setCell ?_ ?_ _) | exact hBt.size | (have := hBt.size; first | omega | (simp; done) | (simp; omega)))) a0', cell_later (by repeat' (first | (with_reducible exact hBt) | (with_reducible refine Below.alloc ?_ ?_ _) | (with_reducible refine Below.drew ?_) | (with_reducible refine below_drewN ?_ _) | (with_reducible refine Below.setCell ?_ ?_ _) | exact hBt.size | (have := hBt.size; first | omega | (simp; done) | (simp; omega)))) a1', cell_later (by repeat' (first | (with_reducible exact hBt) | (with_reducible refine Below.alloc ?_ ?_ _) | (with_reducible refine Below.drew ?_) | (with_reducible refine below_drewN ?_ _) | (with_reducible refine Below.setCell ?_ ?_ _) | exact hBt.size | (have := hBt.size; first | omega | (simp; done) | (simp; omega)))) a2', cell_later (by repeat' (first | (with_reducible exact hBt) | (with_reducible refine Below.alloc ?_ ?_ _) | (with_reducible refine Below.drew ?_) | (with_reducible refine below_drewN ?_ _) | (with_reducible refine Below.setCell ?_ ?_ _) | exact hBt.size | (have := hBt.size; first | omega | (simp; done) | (simp; omega)))) b0', cell_later (by repeat' (first | (with_reducible exact hBt) | (with_reducible refine Below.alloc ?_ ?_ _) | (with_reducible refine Below.drew ?_) | (with_reducible refine below_drewN ?_ _) | (with_reducible refine Below.setCell ?_ ?_ _) | exact hBt.size | (have := hBt.size; first | omega | (simp; done) | (simp; omega)))) b1', cell_later (by repeat' (first | (with_reducible exact hBt) | (with_reducible refine Below.alloc ?_ ?_ _) | (with_reducible refine Below.drew ?_) | (with_reducible refine below_drewN ?_ _) | (with_reducible refine Below.setCell ?_ ?_ _) | exact hBt.size | (have := hBt.size; first | omega | (simp; done) | (simp; omega)))) b2'⟩)
          (first
            | (go_at_call 42; refine (as4_any _ _ _ _ _ _).mono ?_; rintro e w9 ⟨rfl, hb9⟩; replace hBt := bel_step (w := V5) (by repeat' (first | (with_reducible exact hBt) | (with_reducible refine Below.alloc ?_ ?_ _) | (with_reducible refine Below.drew ?_) | (with_reducible refine below_drewN ?_ _) | (with_reducible refine Below.setCell ?_ ?_ _) | exact hBt.size | (have := hBt.size; first | omega | (simp; done) | (simp; omega)))) hb9; have hsz9 := hBt.size)
            | (go_at_call 18; refine (HS0.out (some ⟨gA, 0, none⟩) (some ⟨bb, off, none⟩) gd _ (HSA.out.below (by repeat' (first | (with_reducible exact hBt) | (with_reducible refine Below.alloc ?_ ?_ _) | (with_reducible refine Below.drew ?_) | (with_reducible refine below_drewN ?_ _) | (with_reducible refine Below.setCell ?_ ?_ _) | exact hBt.size | (have := hBt.size; first | omega | (simp; done) | (simp; omega))))) (HSB.out.below (by repeat' (first | (with_reducible exact hBt) | (with_reducible refine Below.alloc ?_ ?_ _) | (with_reducible refine Below.drew ?_) | (with_reducible refine below_drewN ?_ _) | (with_reducible refine Below.setCell ?_ ?_ _) | exact hBt.size | (have := hBt.size; first | omega | (simp; done) | (simp; omega)))))).mono ?_; rintro e w9 ⟨rfl, hb9⟩; replace hBt := bel_step (w := V5) (by repeat' (first | (with_reducible exact hBt) | (with_reducible refine Below.alloc ?_ ?_ _) | (with_reducible refine Below.drew ?_) | (with_reducible refine below_drewN ?_ _) | (with_reducible refine Below.setCell ?_ ?_ _) | exact hBt.size | (have := hBt.size; first | omega | (simp; done) | (simp; omega)))) hb9; have hsz9 := hBt.size)
            | (go_at_call 43; refine (turnMay_any _ _).mono ?_; rw [HNT.out]; rintro e w9 ⟨rfl, rfl⟩)
            | (go_at_call 44; refine (name_ne _ HNT.out _).mono ?_; rintro e w9 ⟨s9, rfl, hs9, hs8, rfl⟩))
        all_goals
          clear x0 x1 x2 a0' a1' a2' b0' b1' b2'
          have HBT := Lib.hid (show Below V5.heap.size V5 _ from (by repeat' (first | (with_reducible exact hBt) | (with_reducible refine Below.alloc ?_ ?_ _) | (with_reducible refine Below.drew ?_) | (with_reducible refine below_drewN ?_ _) | (with_reducible refine Below.setCell ?_ ?_ _) | exact hBt.size | (have := hBt.size; first | omega | (simp; done) | (simp; omega)))))
          obtain ⟨b0', b1', b2'⟩ := (HFB.out.later HBT.out).cells
          go_wp2
          clear b0' b1' b2'
          go_loopg [15] n (fun g2 s15 wy => ∃ i : Nat, i + g2 = n ∧ s15 = .int .i64 i ∧ Below V5.heap.size V5 wy)
          case atStart => exact ⟨0, by omega, rfl, HBT.out⟩
          case round =>
            obtain ⟨i, hi, rfl, hBy⟩ := hrel
            have HBy := Lib.hid hBy
            clear hBy
            obtain ⟨b0', b1', b2'⟩ := (HFB.out.later HBy.out).cells
            cases gk with
            | zero =>
              have hlt2 : ¬ (i : Int) < (n : Int) := by omega
              go_wp2
              go_roundg gg
              case measure => omega
              case rel => exact ⟨k + 1, (m : Int) + 1, by have := HK.out; omega, by have := HZ.out; omega, by go_num, bel_step HC.out HBy.out⟩
            | succ g2 =>
              have hin : i < n := by omega
              have hlt2 : (i : Int) < (n : Int) := by omega
              obtain ⟨q1, q2, q3⟩ := HGT.out i (by rw [HNN.out]; exact hin)
              have hsrc := Tu.src_in (w := W) (h := H) HM8.out (by rw [HDW.out.1]; exact q1) (by rw [HDW.out.2]; exact q2)
              have hF := Lib.hid (HFR.out _ _ q1 q2)
              have hle : i / bw ≤ i := Nat.div_le_self _ _
              have hnz3 : ¬ bw = 0 := by intro h; rw [h] at q1; exact absurd q1 (Nat.not_lt_zero _)
              obtain ⟨p, hp⟩ : ∃ p, Tu.sx m W H (i % bw) (i / bw) = p := ⟨_, rfl⟩
              obtain ⟨q, hq⟩ : ∃ q, Tu.sy m W H (i % bw) (i / bw) = q := ⟨_, rfl⟩
              rw [hp, hq] at hF hsrc q3
              obtain ⟨u, hu⟩ : ∃ u, Tu.atL L W p q = u := ⟨_, rfl⟩
              rw [hu] at q3
              have hval : Rc.atV W H L (p : Int) (q : Int) = (u, true) := by
                unfold Rc.atV
                rw [if_pos (at_in hsrc.1 hsrc.2), ← hu]
                simp only [Tu.atL, Int.toNat_natCast]
              have hAt := fun W2 h => refAt_any W H p q ga gc L (mk_ok HMK.out (by decide)) (by rw [HLn.out]; exact hc1) hc2 W2 h
              rw [hval, HLn.out] at hAt
              have HAT := Lib.hid hAt
              have HQ3 := Lib.hid q3
              obtain ⟨x0, x1, x2⟩ := (HFX.out.later (bel_step HC.out HBy.out)).cells
              have hrem : (i : Int).tmod (bw : Int) = ((i % bw : Nat) : Int) := nat_tmod _ _
              have hquo : (i : Int).tdiv (bw : Int) = ((i / bw : Nat) : Int) := nat_tdiv _ _
              have hnz : ((bw : Int) == 0) = false := by simp; exact hnz3
              have hnz2 : ¬ (bw : Int) = 0 := by simp; exact hnz3
              have hnz4 : (bw == 0) = false := by simp; exact hnz3
              obtain ⟨x, hx⟩ : ∃ x, i % bw = x := ⟨_, rfl⟩
              obtain ⟨y, hy⟩ : ∃ y, i / bw = y := ⟨_, rfl⟩
              rw [hx, hy] at hF
              rw [hx] at hrem
              rw [hy] at hquo hle
              have hq2 : IntKind.i64.wrap (y : Int) = y := i64n (Nat.le_trans hle (Nat.le_trans (Nat.le_of_lt hin) (Nat.le_trans hn64 (by decide))))
              clear hp hq hx hy hu hval hAt q1 q2 q3 hsrc hle
              have hBt := Below.refl wr.heap.size wr
              go_wp2_with fail
              go_region_held3 (fun w' => w'.cell? ⟨w1.heap.size, 0, none⟩ = some (.int .i64 W) ∧ w'.cell? ⟨w1.heap.size, 1, none⟩ = some (.int .i64 H) ∧ w'.cell? ⟨w5.heap.size, 0, none⟩ = some (.int .i64 bw))
                (first | exact ⟨x0, x1, b0'⟩ | exact ⟨cell_later (by repeat' (first | (with_reducible exact hBt) | (with_reducible refine Below.alloc ?_ ?_ _) | (with_reducible refine Below.drew ?_) | (with_reducible refine below_drewN ?_ _) | (with_reducible refine Below.setCell ?_ ?_ _) | exact hBt.size | (have := hBt.size; first | omega | (simp; done) | (simp; omega)))) x0, cell_later (by repeat' (first | (with_reducible exact hBt) | (with_reducible refine Below.alloc ?_ ?_ _) | (with_reducible refine Below.drew ?_) | (with_reducible refine below_drewN ?_ _) | (with_reducible refine Below.setCell ?_ ?_ _) | exact hBt.size | (have := hBt.size; first | omega | (simp; done) | (simp; omega)))) x1, cell_later (by repeat' (first | (with_reducible exact hBt) | (with_reducible refine Below.alloc ?_ ?_ _) | (with_reducible refine Below.drew ?_) | (with_reducible refine below_drewN ?_ _) | (with_reducible refine Below.setCell ?_ ?_ _) | exact hBt.size | (have := hBt.size; first | omega | (simp; done) | (simp; omega)))) b0'⟩)
                (first
                  | (go_at_call 45; refine (hF.out _).mono ?_; rintro e w9 ⟨rfl, hb9⟩; replace hBt := bel_step (w := wr) (by repeat' (first | (with_reducible exact hBt) | (with_reducible refine Below.alloc ?_ ?_ _) | (with_reducible refine Below.drew ?_) | (with_reducible refine below_drewN ?_ _) | (with_reducible refine Below.setCell ?_ ?_ _) | exact hBt.size | (have := hBt.size; first | omega | (simp; done) | (simp; omega)))) hb9; have hsz9 := hBt.size))
              clear hrem hquo hnz hnz2 hnz3 hnz4 hq2
              all_goals
                clear x0 x1 x2 b0' b1' b2'
                have HBU := Lib.hid (show Below wr.heap.size wr _ from (by repeat' (first | (with_reducible exact hBt) | (with_reducible refine Below.alloc ?_ ?_ _) | (with_reducible refine Below.drew ?_) | (with_reducible refine below_drewN ?_ _) | (with_reducible refine Below.setCell ?_ ?_ _) | exact hBt.size | (have := hBt.size; first | omega | (simp; done) | (simp; omega)))))
                have HBZ := Lib.hid (bel_step HBy.out HBU.out)
                obtain ⟨x0, x1, x2⟩ := (HFX.out.later (bel_step HC.out HBZ.out)).cells
                clear hBt
                go_wp2_with fail
                refine (HAT.out _ (HSX.out.below (bel_step HC.out HBZ.out))).mono ?_
                rintro e w7 ⟨rfl, hb7⟩
                have HB7 := Lib.hid (bel_step HBZ.out hb7)
                clear x0 x1 x2 hb7
                obtain ⟨b0', b1', b2'⟩ := (HFB.out.later HB7.out).cells
                have hcw := cell_later HB7.out (show V5.cell? ⟨bb, off + i, none⟩ = some (.int .u64 u) from by rw [HCL.out i hin, HQ3.out])
                go_wp2
                go_roundg g2
                case measure => omega
                case rel => exact ⟨i + 1, by omega, by go_num, HB7.out⟩
end Go.Proofs.Ytlihkdbbcnmbmaa

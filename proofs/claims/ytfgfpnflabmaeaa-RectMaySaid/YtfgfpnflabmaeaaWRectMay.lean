/- RectMay: which matrices may be is told as the document says; there are such of noughts: the walk of the law. No condition. -/
import Derived.Test.YtfgfpnflabmaeaaRecL
import Derived.Deep.DeepCutAuto
import Derived.Deep.CutRange
namespace Go.Proofs.Ytfgfpnflabmaeaa
open Go.RowKit
set_option linter.unusedVariables false

theorem i64_of {n : Int} (h : (Lit.int .i64 n).wf = true) : I64 n := wfI h
theorem around_i {n m : Int} (h : I64 n) (hm : 0 < m) (hm2 : m ≤ 9223372036854775807) (w : World) :
    Calls Try.prog 22 #[.int .i64 n, .int .i64 m] w fun e w' => e = .returned (.int .i64 (Ar.around n m)) ∧ w = w' := aroundOf n m h.1 h.2 hm hm2 w

theorem bel_draw {wr X w9 : World} (hb : Below X.heap.size X w9) (h1 : X.heap = wr.heap) (h2 : X.os = wr.os) (h3 : X.tape = wr.tape) (h4 : X.output = wr.output) : Below wr.heap.size wr w9 :=
  ⟨hb.os.trans h2, hb.tape.trans h3, hb.output.trans h4, by have := hb.size; rw [h1] at this; exact this, fun k hk => by rw [hb.block k (by rw [h1]; exact hk), h1]⟩
theorem size_drewN' (w : World) (n : Nat) : (w.drewN n).heap.size = w.heap.size := rfl
theorem Pc.lt {w : World} {b : Nat} {t : TypeId} {x y : Int} (h : Pc w b t x y) : b < w.heap.size := (Array.getElem?_eq_some_iff.1 h).1
theorem quiet_one {P : Program} {f : FuncId} {args : Array Value} {w : World} {n : Nat} {v : Value} (h : ∀ W : World, Calls P f args W fun e w' => e = .returned v ∧ W = w') :
    Calls P f args (w.drewN n) fun e w'' => e = .returned v ∧ ∃ m, w'' = w.drewN m := (h _).mono fun _ _ ⟨he, hw⟩ => ⟨he, n, hw.symm⟩
set_option maxRecDepth 100000 in
set_option maxHeartbeats 8000000 in
theorem rectMay_walk (a0w0 a0h1 : Int) (a0 : Option Addr) (len0 cap0 : Nat) (z0 : List Int) (a1 : Int) (a2 : Int) (w : World) (w00 : (Lit.int .i64 a0w0).wf = true) (w01 : (Lit.int .i64 a0h1).wf = true) (w02 : IsRow .u64 w a0 len0 cap0 z0) (w1 : (Lit.int .i64 a1).wf = true) (w2 : (Lit.int .i64 a2).wf = true) :
    Calls Try.prog 4 #[.agg #[.int .i64 a0w0, .int .i64 a0h1, .slice a0 len0 cap0], .int .i64 a1, .int .i64 a2] w fun e w' => e = .returned (.bool true) ∧ Below w.heap.size w w' := by
  have h1 := Lib.hid (i64_of w1)
  have h2 := Lib.hid (i64_of w2)
  obtain ⟨l1, l2, l3, l4⟩ := isrow_len w02
  clear w00 w01 w02 w1 w2
  obtain ⟨c1, hc1⟩ : ∃ c, Hid (Ar.around a1 20 = c) := ⟨_, rfl⟩
  obtain ⟨c2, hc2⟩ : ∃ c, Hid (Ar.around a2 20 = c) := ⟨_, rfl⟩
  have hb1 : 0 ≤ c1 ∧ c1 < 20 := by rw [← hc1.out]; exact Ar.around_lt _ _ (by omega)
  have hb2 : 0 ≤ c2 ∧ c2 < 20 := by rw [← hc2.out]; exact Ar.around_lt _ _ (by omega)
  obtain ⟨b1, b2⟩ := hb1
  obtain ⟨b3, b4⟩ := hb2
  have A1 := Lib.hid (fun W2 => around_i h1.out (m := 20) (by omega) (by omega) W2)
  have A2 := Lib.hid (fun W2 => around_i h2.out (m := 20) (by omega) (by omega) W2)
  rw [hc1.out] at A1
  rw [hc2.out] at A2
  have I1 := Lib.hid (show I64 (1 + c1) by unfold I64; omega)
  have I2 := Lib.hid (show I64 (1 + c2) by unfold I64; omega)
  obtain ⟨m, hm, hmm⟩ : ∃ m, m = min len0 60 ∧ ((len0 ≤ 60 ∧ m = len0) ∨ (60 < len0 ∧ m = 60)) := ⟨_, rfl, by omega⟩
  have k1 : (if 60 < (len0 : Int) then (60 : Int) else len0) = (m : Int) := by split <;> omega
  have k2 : m ≤ cap0 := by omega
  have k3 : m ≤ 60 := by omega
  clear hm hmm
  go_enter Try.func4, Try.ntmps4
  go_wp2_with (first
    | (go_at_call 22; first
      | ((with_reducible refine (A1.out _).mono ?_); rintro e w1 ⟨rfl, rfl⟩)
      | ((with_reducible refine (A2.out _).mono ?_); rintro e w1 ⟨rfl, rfl⟩)))
  have hSD := Lib.hid (show Sb (((w.alloc (.cells #[.int .i64 a0w0, .int .i64 a0h1, .slice a0 m cap0] 25)).alloc (.cells #[.int .i64 a1, .int .i64 (1 + c1)] 3)).alloc (.cells #[.int .i64 a2, .int .i64 (1 + c2)] 3)) w.heap.size 25 (.int .i64 a0w0) (.int .i64 a0h1) (.slice a0 m cap0) from ((Sb.new _ _ _ _ _).alloc _).alloc _)
  have hSE := Lib.hid (show Pc (((w.alloc (.cells #[.int .i64 a0w0, .int .i64 a0h1, .slice a0 m cap0] 25)).alloc (.cells #[.int .i64 a1, .int .i64 (1 + c1)] 3)).alloc (.cells #[.int .i64 a2, .int .i64 (1 + c2)] 3)) (w.heap.size + 1) 3 a1 (1 + c1) from heapOld _ _ (by have := heapNew (w.alloc (.cells #[.int .i64 a0w0, .int .i64 a0h1, .slice a0 m cap0] 25)) (.cells #[.int .i64 a1, .int .i64 (1 + c1)] 3); simp only [World.size_alloc] at this; exact this))
  have hSF := Lib.hid (show Pc (((w.alloc (.cells #[.int .i64 a0w0, .int .i64 a0h1, .slice a0 m cap0] 25)).alloc (.cells #[.int .i64 a1, .int .i64 (1 + c1)] 3)).alloc (.cells #[.int .i64 a2, .int .i64 (1 + c2)] 3)) (w.heap.size + 1 + 1) 3 a2 (1 + c2) from by have := heapNew ((w.alloc (.cells #[.int .i64 a0w0, .int .i64 a0h1, .slice a0 m cap0] 25)).alloc (.cells #[.int .i64 a1, .int .i64 (1 + c1)] 3)) (.cells #[.int .i64 a2, .int .i64 (1 + c2)] 3); simp only [World.size_alloc] at this; exact this)
  have hSB := Lib.hid (show Below w.heap.size w (((w.alloc (.cells #[.int .i64 a0w0, .int .i64 a0h1, .slice a0 m cap0] 25)).alloc (.cells #[.int .i64 a1, .int .i64 (1 + c1)] 3)).alloc (.cells #[.int .i64 a2, .int .i64 (1 + c2)] 3)) from by go_grown)
  clear A1 A2 k1
  go_loopg [9] 2 (fun g s9 wr => ∃ k : Nat, k + g = 2 ∧ s9 = .int .i64 k ∧ Below w.heap.size w wr ∧ Sb wr w.heap.size 25 (.int .i64 a0w0) (.int .i64 a0h1) (.slice a0 m cap0) ∧ Pc wr (w.heap.size + 1) 3 a1 (1 + c1) ∧ Pc wr (w.heap.size + 1 + 1) 3 a2 (1 + c2))
  case atStart => exact ⟨0, rfl, rfl, hSB.out, hSD.out, hSE.out, hSF.out⟩
  case round =>
    obtain ⟨k, hk, rfl, B, D, E, F⟩ := hrel
    cases gk with
    | zero =>
      obtain rfl : k = 2 := by omega
      obtain ⟨q0, q1, q2⟩ := D.cells
      have M1 := Lib.hid (fun W2 => may_any a0w0 a0h1 a0 m cap0 (by omega) W2)
      have M2 := Lib.hid (fun W2 => refMay_any a0w0 a0h1 a0 m cap0 (by omega) W2)
      obtain ⟨V, hV⟩ : ∃ V, Rc.mayV a0w0 a0h1 m = V := ⟨_, rfl⟩
      rw [hV] at M1 M2
      have hBt := Below.refl wr.heap.size wr
      clear hV D E F
      go_wp2
      replace hBt := hBt.drew
      go_region_held3 (fun w' => w'.cell? ⟨w.heap.size, 0, none⟩ = some (.int .i64 a0w0) ∧ w'.cell? ⟨w.heap.size, 1, none⟩ = some (.int .i64 a0h1) ∧ w'.cell? ⟨w.heap.size, 2, none⟩ = some (.slice a0 m cap0))
        (first | exact ⟨q0, q1, q2⟩ | exact ⟨cell_later hBt q0, cell_later hBt q1, cell_later hBt q2⟩)
        (first
          | (go_at_call 25; refine (of_any _ _ _ _ _ _).mono ?_; rintro e w9 ⟨rfl, hb9⟩; replace hBt := bel_step hBt hb9)
          | (go_at_call 20; refine (M1.out _).mono ?_; rintro e w9 ⟨rfl, hb9⟩; replace hBt := bel_step hBt hb9)
          | (go_at_call 26; refine (M2.out _).mono ?_; rintro e w9 ⟨rfl, hb9⟩; replace hBt := bel_step hBt hb9)
          | (go_at_call 21; refine (lives_any _).mono ?_; rintro e w9 ⟨rfl, hb9⟩; replace hBt := bel_step hBt hb9))
      all_goals
        go_wp2
        go_ret
        exact ⟨rfl, B.trans (hBt.mono B.size)⟩
    | succ g =>
      obtain ⟨p, q, cp, cq, ip, iq⟩ : ∃ p q, wr.cell? ⟨w.heap.size + 1, k, none⟩ = some (.int .i64 p) ∧ wr.cell? ⟨w.heap.size + 1 + 1, k, none⟩ = some (.int .i64 q) ∧ Hid (I64 p) ∧ Hid (I64 q) := by
        have : k = 0 ∨ k = 1 := by omega
        rcases this with rfl | rfl
        · exact ⟨_, _, E.cells.1, F.cells.1, h1, h2⟩
        · exact ⟨_, _, E.cells.2, F.cells.2, I1, I2⟩
      have i1 : (k : Int) < 2 := by omega
      have i0 : (0 : Int) ≤ (k : Int) := Int.natCast_nonneg _
      have S1 := Lib.hid (fun W2 => refSized_any p q W2)
      have HB := Lib.hid B
      have HD := Lib.hid D
      have HE := Lib.hid E
      have HF := Lib.hid F
      clear B D E F
      cases hs : Rc.sized p q
      · have N1 := Lib.hid (fun W2 => new_no p q W2 hs)
        have M1 := Lib.hid (fun W2 => may_any 0 0 none 0 0 (by omega) W2)
        rw [show Rc.mayV 0 0 0 = false by decide] at M1
        have hBt := Below.refl wr.heap.size wr
        rw [hs] at S1
        go_wp2
        go_quiet ((first | (go_at_call 23; exact quiet_one S1.out)))
        go_wp2
        go_quiet (fail)
        go_upto_region 9 with fail
        go_cut [11, 12] (fun s11 s12 wx => ∃ nb, s11 = .pointer (some ⟨nb, 0, none⟩) ∧ s12 = .int .i64 1 ∧ Sb wx nb 26 (.int .i64 0) (.int .i64 0) (.slice none 0 0) ∧ Below wr.heap.size wr wx)
        case first =>
          go_region_held3 (fun w' => w'.cell? ⟨w.heap.size + 1, k, none⟩ = some (.int .i64 p) ∧ w'.cell? ⟨w.heap.size + 1 + 1, k, none⟩ = some (.int .i64 q))
            (first | exact ⟨cp, cq⟩ | exact ⟨cell_later (by repeat' (first | (with_reducible exact hBt) | (with_reducible refine Below.alloc ?_ ?_ _) | (with_reducible refine Below.drew ?_) | (with_reducible refine below_drewN ?_ _) | (with_reducible refine Below.setCell ?_ ?_ _) | exact hBt.size | (have := hBt.size; first | omega | (simp; done) | (simp; omega)))) cp, cell_later (by repeat' (first | (with_reducible exact hBt) | (with_reducible refine Below.alloc ?_ ?_ _) | (with_reducible refine Below.drew ?_) | (with_reducible refine below_drewN ?_ _) | (with_reducible refine Below.setCell ?_ ?_ _) | exact hBt.size | (have := hBt.size; first | omega | (simp; done) | (simp; omega)))) cq⟩)
            (first
              | (go_at_call 24; refine (N1.out _).mono ?_; rintro e w9 ⟨rfl, hb9⟩; replace hBt := bel_step (w := wr) (by repeat' (first | (with_reducible exact hBt) | (with_reducible refine Below.alloc ?_ ?_ _) | (with_reducible refine Below.drew ?_) | (with_reducible refine below_drewN ?_ _) | (with_reducible refine Below.setCell ?_ ?_ _) | exact hBt.size | (have := hBt.size; first | omega | (simp; done) | (simp; omega)))) hb9; (try replace hNB := hNB.later hb9); (try (have hNB := Sb.later (Sb.new _ _ _ _ _) hb9; (try simp only [World.size_drew, size_drewN'] at hNB))); (try (obtain ⟨z0, z1, z2⟩ := hNB.cells)); (try (obtain ⟨y0, y1, y2⟩ := hNB.fr))))
          all_goals
            go_wp2_with fail
            go_meet
            case rel =>
              first
                | exact ⟨_, rfl, rfl, Sb.new _ _ _ _ _, (by repeat' (first | (with_reducible exact hBt) | (with_reducible refine Below.alloc ?_ ?_ _) | (with_reducible refine Below.drew ?_) | (with_reducible refine below_drewN ?_ _) | (with_reducible refine Below.setCell ?_ ?_ _) | exact hBt.size | (have := hBt.size; first | omega | (simp; done) | (simp; omega))))⟩
                | exact ⟨_, rfl, rfl, hNB.put _ _ _, (by repeat' (first | (with_reducible exact hBt) | (with_reducible refine Below.alloc ?_ ?_ _) | (with_reducible refine Below.drew ?_) | (with_reducible refine below_drewN ?_ _) | (with_reducible refine Below.setCell ?_ ?_ _) | exact hBt.size | (have := hBt.size; first | omega | (simp; done) | (simp; omega))))⟩
        case rest =>
          obtain ⟨nb, rfl, rfl, hNB, hBx⟩ := hcut
          have HNB := Lib.hid hNB
          have HBX := Lib.hid hBx
          obtain ⟨n0, n1, n2⟩ := hNB.cells
          clear hNB hBx hBt
          go_wp2_with (go_at_call 20; refine (M1.out _).mono ?_; rintro e w9 ⟨rfl, hb9⟩; obtain ⟨t0, t1, t2⟩ := (HNB.out.later hb9).cells)
          refine wp_loop_rounds 1 ?_
          rw [rounds_succ]
          go_wp2
          have hBY := bel_step HBX.out hb9
          go_roundg g
          case measure => omega
          case rel => exact ⟨k + 1, by omega, by go_num, bel_step HB.out hBY, HD.out.later hBY, HE.out.below hBY HE.out.lt, HF.out.below hBY HF.out.lt⟩
      · have N1 := Lib.hid (fun W2 => new_any p q W2 hs)
        have hBt := Below.refl wr.heap.size wr
        rw [hs] at S1
        obtain ⟨s1, s2, s3, s4, s5⟩ := Rc.sized_iff.1 hs
        obtain ⟨n, hn⟩ : ∃ n, q.toNat * p.toNat = n := ⟨_, rfl⟩
        have e : p * q = (n : Int) := by rw [← hn, Int.natCast_mul, Int.toNat_of_nonneg (by omega), Int.toNat_of_nonneg (by omega), Int.mul_comm]
        have e1 : wrap64 (p * q) = (n : Int) := by rw [e, IntWalk.wrap64_in] <;> omega
        have e2 : IntKind.i64.wrap (p * q) = (n : Int) := by rw [e, IntWalk.i64_in] <;> omega
        have hn2 : n ≤ 16777216 := by omega
        rw [hn] at N1
        have M1 := Lib.hid (fun (W2 : World) (g : Nat) => may_any p q (some ⟨g, 0, none⟩) n n (by omega) W2)
        rw [show Rc.mayV p q n = true by rw [Rc.mayV_iff]; exact ⟨⟨s1, s2, s3, s4, s5⟩, e.symm⟩] at M1
        clear e hn s5
        cases hd : decide ((5000 : Int) < (n : Int))
        · go_wp2
          go_quiet ((first | (go_at_call 23; exact quiet_one S1.out)))
          go_wp2
          go_quiet (fail)
          go_upto_region 9 with fail
          go_cut [11, 12] (fun s11 s12 wx => ∃ nb gg, s11 = .pointer (some ⟨nb, 0, none⟩) ∧ s12 = .int .i64 0 ∧ Sb wx nb 26 (.int .i64 p) (.int .i64 q) (.slice (some ⟨gg, 0, none⟩) n n) ∧ OwnG 0 wx gg (List.replicate n 0) ∧ Below wr.heap.size wr wx)
          case first =>
            go_region_held3 (fun w' => w'.cell? ⟨w.heap.size + 1, k, none⟩ = some (.int .i64 p) ∧ w'.cell? ⟨w.heap.size + 1 + 1, k, none⟩ = some (.int .i64 q))
              (first | exact ⟨cp, cq⟩ | exact ⟨cell_later (by repeat' (first | (with_reducible exact hBt) | (with_reducible refine Below.alloc ?_ ?_ _) | (with_reducible refine Below.drew ?_) | (with_reducible refine below_drewN ?_ _) | (with_reducible refine Below.setCell ?_ ?_ _) | exact hBt.size | (have := hBt.size; first | omega | (simp; done) | (simp; omega)))) cp, cell_later (by repeat' (first | (with_reducible exact hBt) | (with_reducible refine Below.alloc ?_ ?_ _) | (with_reducible refine Below.drew ?_) | (with_reducible refine below_drewN ?_ _) | (with_reducible refine Below.setCell ?_ ?_ _) | exact hBt.size | (have := hBt.size; first | omega | (simp; done) | (simp; omega)))) cq⟩)
              (first
                | (go_at_call 24; refine (N1.out _).mono ?_; rintro e w9 ⟨g, rfl, hg, hb9⟩; replace hBt := bel_step (w := wr) (by repeat' (first | (with_reducible exact hBt) | (with_reducible refine Below.alloc ?_ ?_ _) | (with_reducible refine Below.drew ?_) | (with_reducible refine below_drewN ?_ _) | (with_reducible refine Below.setCell ?_ ?_ _) | exact hBt.size | (have := hBt.size; first | omega | (simp; done) | (simp; omega)))) hb9; (try replace hNB := hNB.later hb9); (try (have hNB := Sb.later (Sb.new _ _ _ _ _) hb9; (try simp only [World.size_drew, size_drewN'] at hNB))); (try (obtain ⟨z0, z1, z2⟩ := hNB.cells)); (try (obtain ⟨y0, y1, y2⟩ := hNB.fr))))
            all_goals
              go_wp2_with fail
              go_meet
              case rel =>
                first
                  | exact ⟨_, _, rfl, rfl, Sb.new _ _ _ _ _, (hg.mono (Nat.zero_le _)).alloc _, (by repeat' (first | (with_reducible exact hBt) | (with_reducible refine Below.alloc ?_ ?_ _) | (with_reducible refine Below.drew ?_) | (with_reducible refine below_drewN ?_ _) | (with_reducible refine Below.setCell ?_ ?_ _) | exact hBt.size | (have := hBt.size; first | omega | (simp; done) | (simp; omega))))⟩
                  | exact ⟨_, _, rfl, rfl, hNB.put _ _ _, (((hg.mono (Nat.zero_le _)).set _ _ (by have := hg.1; simp at this ⊢; omega)).set _ _ (by have := hg.1; simp at this ⊢; omega)).set _ _ (by have := hg.1; simp at this ⊢; omega), (by repeat' (first | (with_reducible exact hBt) | (with_reducible refine Below.alloc ?_ ?_ _) | (with_reducible refine Below.drew ?_) | (with_reducible refine below_drewN ?_ _) | (with_reducible refine Below.setCell ?_ ?_ _) | exact hBt.size | (have := hBt.size; first | omega | (simp; done) | (simp; omega))))⟩
          case rest =>
            obtain ⟨nb, gg, rfl, rfl, hNB, hOG, hBx⟩ := hcut
            have HNB := Lib.hid hNB
            have HBX := Lib.hid hBx
            have HOG := Lib.hid hOG
            obtain ⟨n0, n1, n2⟩ := hNB.cells
            clear hNB hBx hBt hOG
            go_wp2_with (go_at_call 20; refine (M1.out _ gg).mono ?_; rintro e w9 ⟨rfl, hb9⟩; obtain ⟨t0, t1, t2⟩ := (HNB.out.later hb9).cells)
            have hBY := bel_step HBX.out hb9
            have HO2 := Lib.hid (HOG.out.later hb9)
            have HBY := Lib.hid hBY
            clear hb9 hBY n0 n1 n2
            go_loopg [13] n (fun g2 s13 wy => ∃ j : Nat, j + g2 = n ∧ s13 = .int .i64 j ∧ w9 = wy)
            case atStart => exact ⟨0, by omega, rfl, rfl⟩
            case round =>
              obtain ⟨j, hj, rfl, rfl⟩ := hrel
              cases gk with
              | zero =>
                obtain rfl : j = n := by omega
                go_wp2
                go_roundg g
                case measure => omega
                case rel => exact ⟨k + 1, by omega, by go_num, bel_step HB.out HBY.out, HD.out.later HBY.out, HE.out.below HBY.out HE.out.lt, HF.out.below HBY.out HF.out.lt⟩
              | succ g2 =>
                have hj1 : (j : Int) < (n : Int) := by omega
                have hc := HO2.out.cell (i := j) (by simp; omega)
                rw [show (List.replicate n (0 : Int)).getD j 0 = 0 by simp [List.getD_eq_getElem?_getD, List.getElem?_replicate]; split <;> rfl] at hc
                go_wp2
                go_roundg g2
                case measure => omega
                case rel => exact ⟨j + 1, by omega, by go_num, rfl⟩
        · go_wp2
          go_quiet ((first | (go_at_call 23; exact quiet_one S1.out)))
          go_wp2
          go_quiet (fail)
          go_wp2
          go_roundg g
          case measure => omega
          case rel => exact ⟨k + 1, by omega, by go_num, ⟨HB.out.os, HB.out.tape, HB.out.output, HB.out.size, HB.out.block⟩, HD.out, HE.out, HF.out⟩
end Go.Proofs.Ytfgfpnflabmaeaa

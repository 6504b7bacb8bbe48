/- RawNew: which heads are read, and how many bytes a row has, is told as the document says: the walk of the law. No condition. -/
import Derived.Test.YtflpocnbmpdhiaaZgAC
import Derived.Deep.DeepCutAuto
namespace Go.Proofs.Ytflpocnbmpdhiaa
open Go.RowKit
set_option linter.unusedVariables false
/-- a new reader beside two heads in a block -/
structure NwQ (wz : World) (b g : Nat) (h k : Hd.H) (s : Rw.S) (w : World) : Prop where
  x : RwX w b (.slice none 0 0) (.slice none 0 0) s
  a : Ha w g h k
  bel : Below wz.heap.size wz w
section
variable {wz : World} {b g : Nat} {h k : Hd.H} {s : Rw.S} {w w' : World}
theorem NwQ.later (Q : NwQ wz b g h k s w) (hb : Below w.heap.size w w') : NwQ wz b g h k s w' := ⟨Q.x.later hb, Q.a.later hb, bel_step Q.bel hb⟩
theorem NwQ.drew (Q : NwQ wz b g h k s w) : NwQ wz b g h k s w.drew := Q.later ⟨rfl, rfl, rfl, Nat.le_refl _, fun _ _ => rfl⟩
theorem NwQ.all (Q : NwQ wz b g h k s w) : w.cell? ⟨g, 0, none⟩ = some (.int .i64 h.kd) ∧ w.cell? ⟨g, 1, none⟩ = some (.int .i64 h.w) ∧ w.cell? ⟨g, 2, none⟩ = some (.int .i64 h.h) ∧ w.cell? ⟨g, 3, none⟩ = some (.int .i64 h.m) ∧ w.cell? ⟨g, 4, none⟩ = some (.int .i64 k.kd) ∧ w.cell? ⟨g, 5, none⟩ = some (.int .i64 k.w) ∧ w.cell? ⟨g, 6, none⟩ = some (.int .i64 k.h) ∧ w.cell? ⟨g, 7, none⟩ = some (.int .i64 k.m) ∧ NwQ wz b g h k s w := by
  obtain ⟨a0, a1, a2, a3, a4, a5, a6, a7⟩ := Q.a.cells
  exact ⟨a0, a1, a2, a3, a4, a5, a6, a7, Q⟩
theorem NwQ.left (Q : NwQ wz b g h k s w) {n : Int} (hn : s.left = n) : Calls Try.prog 35 #[.pointer (some ⟨b, 0, none⟩)] w fun e w' => e = .returned (.int .i64 n) ∧ w = w' := by
  have h := rwLeft_x Q.x; rw [hn] at h; exact h
theorem NwQ.rows (Q : NwQ wz b g h k s w) (hn : s.rows = 0) : Calls Try.prog 34 #[.pointer (some ⟨b, 0, none⟩)] w fun e w' => e = .returned (.int .i64 0) ∧ w = w' := by
  have h := rwRows_x Q.x; rw [hn] at h; exact h
theorem NwQ.err (Q : NwQ wz b g h k s w) (hn : s.e = 0) : Calls Try.prog 36 #[.pointer (some ⟨b, 0, none⟩)] w fun e w' => e = .returned (.int .i64 0) ∧ w = w' := by
  have h := rwError_x Q.x; rw [hn] at h; exact h
end
theorem nw_bel {w0 w w' : World} (h : Below w0.heap.size w0 w) (hb : Below w.heap.size w w') : Below w0.heap.size w0 w' := h.trans (hb.mono h.size)
theorem rwNew_two (h : Hd.H) (hf : Hj.Fit h) : (Rw.May h ∧ ∀ W, Calls Try.prog 29 #[agH h] W (RwNewR h W)) ∨ (¬ Rw.May h ∧ ∀ W, Calls Try.prog 29 #[agH h] W fun e w' => e = .returned (.tuple #[.pointer none, .int .i64 1]) ∧ Below W.heap.size W w') := by
  by_cases hm : Rw.May h
  · exact .inl ⟨hm, fun W => rwNew_yes h hf hm W⟩
  · exact .inr ⟨hm, fun W => rwNew_no h hf hm W⟩
set_option maxRecDepth 100000 in
set_option maxHeartbeats 16000000 in
theorem rawNew_walk (a1k0 a1w1 a1h2 a1m3 : Int) (w : World) (w00 : (Lit.int .i64 a1k0).wf = true) (w01 : (Lit.int .i64 a1w1).wf = true) (w02 : (Lit.int .i64 a1h2).wf = true) (w03 : (Lit.int .i64 a1m3).wf = true) :
    Calls Try.prog 8 #[.agg #[.int .i64 a1k0, .int .i64 a1w1, .int .i64 a1h2, .int .i64 a1m3]] w fun e w' => e = .returned (.bool true) ∧ Below w.heap.size w w' := by
  have HF : Hj.Fit ⟨a1k0, a1w1, a1h2, a1m3⟩ := ⟨wfI w00, wfI w01, wfI w02, wfI w03⟩
  obtain ⟨h, hh⟩ : ∃ h : Hd.H, h = ⟨a1k0, a1w1, a1h2, a1m3⟩ := ⟨_, rfl⟩
  have q0 : a1k0 = h.kd := by rw [hh]
  have q1 : a1w1 = h.w := by rw [hh]
  have q2 : a1h2 = h.h := by rw [hh]
  have q3 : a1m3 = h.m := by rw [hh]
  rw [← hh] at HF
  clear w00 w01 w02 w03 hh
  subst q0; subst q1; subst q2; subst q3
  have hG := hgoodM_any 4096 (by decide) (by decide) h HF
  have hMG := Pl.goodM_may 4096 (by decide) (by decide) h
  obtain ⟨g1, g2, g3, g4, _⟩ := Pl.goodM_in 4096 (by decide) h
  generalize Pl.goodM 4096 h = G at hG g1 g2 g3 g4 hMG
  have HFG : Hj.Fit G := by unfold Hj.Fit Nu.I; omega
  have hp0 := refRwMay_any _ HF
  have hp1 := refRwMay_any _ HFG
  have hn0 := rwNew_two _ HF
  have hn1 := rwNew_two _ HFG
  have hs0 := fun (hm : Rw.May h) => refSize_any h hm.1
  have hs1 := refSize_any G hMG
  have ht0 := rwStride_any G HFG hMG
  have ht1 := refStride_any G hMG
  obtain ⟨z1, z2, z3⟩ := Rw.strideV_size hMG
  have hz : wrap64 (Rw.strideV G * G.h) = Hj.size G := by
    rw [z1, IntWalk.wrap64_in]
    have : Rw.strideV G * G.h ≤ 24576 * 4096 := Int.mul_le_mul z3 (by omega) (by omega) (by omega)
    have := Int.mul_nonneg z2 (show 0 ≤ G.h by omega)
    rw [z1] at *; omega
  have HWZ := Lib.hid hz
  generalize hsg : Hj.size G = sg at hs1 hz HWZ
  have HSG := Lib.hid hsg
  generalize hst : Rw.strideV G = st at ht0 ht1 hz HWZ
  unfold agH at hG hp0 hp1 hn0 hn1 hs0 hs1 ht0 ht1
  have HG := Lib.hid hG
  have HP0' := Lib.hid hp0
  have HP1' := Lib.hid hp1
  have HN0' := Lib.hid hn0
  have HN1' := Lib.hid hn1
  have HS0 := Lib.hid hs0
  have HS1 := Lib.hid hs1
  have HT0 := Lib.hid ht0
  have HT1 := Lib.hid ht1
  clear hG g1 g2 g3 g4 HF HFG hp0 hp1 hn0 hn1 hs0 hs1 ht0 ht1 hz hsg hst z1 z2 z3 hMG
  go_enter Try.func8, Try.ntmps8
  go_upto_region 1 with fail
  generalize hW : w.alloc (.cells #[.int .i64 h.kd, .int .i64 h.w, .int .i64 h.h, .int .i64 h.m] 25) = W1
  have HK1 : Hid (Hb W1 w.heap.size 25 h) := by show Hb _ _ _ _; rw [← hW]; exact Hb.new w 25 h
  have HB1 : Hid (Below w.heap.size w W1) := by show Below _ _ _; rw [← hW]; exact box1' _ _
  clear hW
  obtain ⟨n0, n1, n2, n3⟩ := HK1.out.cells
  go_wp2_with fail
  refine (HG.out _).mono ?_
  rintro e w2 ⟨rfl, hb⟩
  have HK2 := Lib.hid (HK1.out.later hb)
  have HB2 := Lib.hid (HB1.out.trans (hb.mono HB1.out.size))
  clear hb n0 n1 n2 n3 HK1 HB1
  go_upto_region 2 with fail
  generalize hW : w2.alloc (.cells #[.int .i64 G.kd, .int .i64 G.w, .int .i64 G.h, .int .i64 G.m] 25) = w3
  have HKG : Hid (Hb w3 w2.heap.size 25 G) := by show Hb _ _ _ _; rw [← hW]; exact Hb.new w2 25 G
  have HB3 : Hid (Below w.heap.size w w3) := by show Below _ _ _; rw [← hW]; exact HB2.out.alloc HB2.out.size _
  have HK3 : Hid (Hb w3 w.heap.size 25 h) := by show Hb _ _ _ _; rw [← hW]; exact HK2.out.later (box1' _ _)
  clear hW
  obtain ⟨kb, hkb⟩ : ∃ k, w2.heap.size = k := ⟨_, rfl⟩
  rw [hkb] at HKG ⊢
  clear hkb HB2 HK2
  obtain ⟨n0, n1, n2, n3⟩ := HK3.out.cells
  obtain ⟨k0, k1, k2, k3⟩ := HKG.out.cells
  go_upto_region 3 with fail
  generalize hW : w3.alloc (.cells #[.int .i64 h.kd, .int .i64 h.w, .int .i64 h.h, .int .i64 h.m, .int .i64 G.kd, .int .i64 G.w, .int .i64 G.h, .int .i64 G.m] 25) = w4
  have HA4 : Hid (Ha w4 w3.heap.size h G) := by show Ha _ _ _ _; rw [← hW]; exact World.alloc_heap_new _ _
  have HB4 : Hid (Below w.heap.size w w4) := by show Below _ _ _; rw [← hW]; exact HB3.out.alloc HB3.out.size _
  have HK4 : Hid (Hb w4 kb 25 G) := by show Hb _ _ _ _; rw [← hW]; exact HKG.out.later (box1' _ _)
  clear hW
  obtain ⟨g, hg⟩ : ∃ k, w3.heap.size = k := ⟨_, rfl⟩
  rw [hg] at HA4 ⊢
  clear hg HB3 HK3 HKG n0 n1 n2 n3 k0 k1 k2 k3
  go_wp2_with fail
  refine wp_loop_rounds 3 ?_
  have HQ : Hid (HA4 = HA4) := Lib.hid rfl
  clear HQ
  rcases HN0'.out with ⟨m0, hn0⟩ | ⟨m0, hn0⟩ <;> rcases HN1'.out with ⟨m1, hn1⟩ | ⟨m1, hn1⟩
  · have hp0 := HP0'.out
    have hp1 := HP1'.out
    simp only [decide_eq_true m0] at hp0
    simp only [decide_eq_true m1] at hp1
    have HP0 := Lib.hid hp0
    have HP1 := Lib.hid hp1
    have HN0 := Lib.hid hn0
    have HN1 := Lib.hid hn1
    have HZS0 := Lib.hid (HS0.out m0)
    obtain ⟨s0, hs0⟩ : ∃ s, Hj.size h = s := ⟨_, rfl⟩
    rw [hs0] at HZS0
    have HZ0 : Hid ((Rw.new h).left = s0) := Lib.hid hs0
    clear hs0
    have HZS1 := HS1
    have HZ1 : Hid ((Rw.new G).left = sg) := Lib.hid HSG.out
    clear hp0 hp1 hn0 hn1 m0 m1
    have HA := HA4; have HB := HB4; have HK := HK4
    clear HA4 HB4 HK4
    rw [rounds_succ]
    obtain ⟨k0, k1, k2, k3, k4, k5, k6, k7⟩ := HA.out.cells
    go_wp2_with fail
    refine (HN0.out _).mono ?_
    rintro e wn ⟨b, rfl, _, hX, hb⟩
    have HXn := Lib.hid hX
    clear hX
    have HA' := Lib.hid (HA.out.later hb)
    have HB' := Lib.hid (HB.out.trans (hb.mono HB.out.size))
    have HK' := Lib.hid (HK.out.later hb)
    clear hb k0 k1 k2 k3 k4 k5 k6 k7 HA HB HK
    obtain ⟨k0, k1, k2, k3, k4, k5, k6, k7⟩ := HA'.out.cells
    go_wp2_with fail
    refine (HP0.out _).mono ?_
    rintro e wm ⟨rfl, hb⟩
    have HA := Lib.hid (HA'.out.later hb)
    have HB := Lib.hid (HB'.out.trans (hb.mono HB'.out.size))
    have HK := Lib.hid (HK'.out.later hb)
    have HX := Lib.hid (HXn.out.later hb)
    clear hb k0 k1 k2 k3 k4 k5 k6 k7 HA' HB' HK'
    clear HXn
    go_upto_region 10 with fail
    have hq : NwQ wm b g h G (Rw.new h) wm := ⟨HX.out, HA.out, .refl _ _⟩
    obtain ⟨k0, k1, k2, k3, k4, k5, k6, k7⟩ := HA.out.cells
    go_cut [70] from 49 to 70 (fun s70 wx => s70 = .bool false ∧ NwQ wm b g h G (Rw.new h) wx)
    case first =>
      go_region_held3 (fun w' => w'.cell? ⟨g, 0, none⟩ = some (.int .i64 h.kd) ∧ w'.cell? ⟨g, 1, none⟩ = some (.int .i64 h.w) ∧ w'.cell? ⟨g, 2, none⟩ = some (.int .i64 h.h) ∧ w'.cell? ⟨g, 3, none⟩ = some (.int .i64 h.m) ∧ w'.cell? ⟨g, 4, none⟩ = some (.int .i64 G.kd) ∧ w'.cell? ⟨g, 5, none⟩ = some (.int .i64 G.w) ∧ w'.cell? ⟨g, 6, none⟩ = some (.int .i64 G.h) ∧ w'.cell? ⟨g, 7, none⟩ = some (.int .i64 G.m) ∧ NwQ wm b g h G (Rw.new h) w')
        (first | (with_reducible exact NwQ.all hq) | (with_reducible exact NwQ.all hq.drew) | (go_split_ands; with_reducible exact NwQ.all (‹NwQ wm b g h G (Rw.new h) _›)) | (go_split_ands; with_reducible exact NwQ.all (NwQ.drew (‹NwQ wm b g h G (Rw.new h) _›))))
        (first
          | (go_at_call 35; go_split_ands; refine (NwQ.left (by assumption) HZ0.out).mono ?_; rintro e wa ⟨rfl, rfl⟩)
          | (go_at_call 34; go_split_ands; refine (NwQ.rows (by assumption) rfl).mono ?_; rintro e wa ⟨rfl, rfl⟩)
          | (go_at_call 36; go_split_ands; refine (NwQ.err (by assumption) rfl).mono ?_; rintro e wa ⟨rfl, rfl⟩)
          | (go_at_call 41; go_split_ands; refine (HZS0.out _).mono ?_; rintro e wa ⟨rfl, hba⟩; have hqa := NwQ.later (‹NwQ wm b g h G (Rw.new h) _›) hba))
      all_goals
        go_wp2_with fail
        go_meet
        case rel => exact ⟨by rfl, by assumption⟩
    case rest =>
      obtain ⟨rfl, hqx⟩ := hcut
      have HA9 := Lib.hid hqx.a
      have HB9 := Lib.hid (HB.out.trans (hqx.bel.mono HB.out.size))
      have HK9 := Lib.hid (HK.out.later hqx.bel)
      clear hq hqx k0 k1 k2 k3 k4 k5 k6 k7 HA HB HK HX
      have HA := HA9; have HB := HB9; have HK := HK9
      clear HA9 HB9 HK9
      go_wp2_with fail
      rw [rounds_succ]
      obtain ⟨k0, k1, k2, k3, k4, k5, k6, k7⟩ := HA.out.cells
      go_wp2_with fail
      refine (HN1.out _).mono ?_
      rintro e wn ⟨b, rfl, _, hX, hb⟩
      have HXn := Lib.hid hX
      clear hX
      have HA' := Lib.hid (HA.out.later hb)
      have HB' := Lib.hid (HB.out.trans (hb.mono HB.out.size))
      have HK' := Lib.hid (HK.out.later hb)
      clear hb k0 k1 k2 k3 k4 k5 k6 k7 HA HB HK
      obtain ⟨k0, k1, k2, k3, k4, k5, k6, k7⟩ := HA'.out.cells
      go_wp2_with fail
      refine (HP1.out _).mono ?_
      rintro e wm ⟨rfl, hb⟩
      have HA := Lib.hid (HA'.out.later hb)
      have HB := Lib.hid (HB'.out.trans (hb.mono HB'.out.size))
      have HK := Lib.hid (HK'.out.later hb)
      have HX := Lib.hid (HXn.out.later hb)
      clear hb k0 k1 k2 k3 k4 k5 k6 k7 HA' HB' HK'
      clear HXn
      go_upto_region 10 with fail
      have hq : NwQ wm b g h G (Rw.new G) wm := ⟨HX.out, HA.out, .refl _ _⟩
      obtain ⟨k0, k1, k2, k3, k4, k5, k6, k7⟩ := HA.out.cells
      go_cut [70] from 49 to 70 (fun s70 wx => s70 = .bool false ∧ NwQ wm b g h G (Rw.new G) wx)
      case first =>
        go_region_held3 (fun w' => w'.cell? ⟨g, 0, none⟩ = some (.int .i64 h.kd) ∧ w'.cell? ⟨g, 1, none⟩ = some (.int .i64 h.w) ∧ w'.cell? ⟨g, 2, none⟩ = some (.int .i64 h.h) ∧ w'.cell? ⟨g, 3, none⟩ = some (.int .i64 h.m) ∧ w'.cell? ⟨g, 4, none⟩ = some (.int .i64 G.kd) ∧ w'.cell? ⟨g, 5, none⟩ = some (.int .i64 G.w) ∧ w'.cell? ⟨g, 6, none⟩ = some (.int .i64 G.h) ∧ w'.cell? ⟨g, 7, none⟩ = some (.int .i64 G.m) ∧ NwQ wm b g h G (Rw.new G) w')
          (first | (with_reducible exact NwQ.all hq) | (with_reducible exact NwQ.all hq.drew) | (go_split_ands; with_reducible exact NwQ.all (‹NwQ wm b g h G (Rw.new G) _›)) | (go_split_ands; with_reducible exact NwQ.all (NwQ.drew (‹NwQ wm b g h G (Rw.new G) _›))))
          (first
            | (go_at_call 35; go_split_ands; refine (NwQ.left (by assumption) HZ1.out).mono ?_; rintro e wa ⟨rfl, rfl⟩)
            | (go_at_call 34; go_split_ands; refine (NwQ.rows (by assumption) rfl).mono ?_; rintro e wa ⟨rfl, rfl⟩)
            | (go_at_call 36; go_split_ands; refine (NwQ.err (by assumption) rfl).mono ?_; rintro e wa ⟨rfl, rfl⟩)
            | (go_at_call 41; go_split_ands; refine (HZS1.out _).mono ?_; rintro e wa ⟨rfl, hba⟩; have hqa := NwQ.later (‹NwQ wm b g h G (Rw.new G) _›) hba))
        all_goals
          go_wp2_with fail
          go_meet
          case rel => exact ⟨by rfl, by assumption⟩
      case rest =>
        obtain ⟨rfl, hqx⟩ := hcut
        have HA9 := Lib.hid hqx.a
        have HB9 := Lib.hid (HB.out.trans (hqx.bel.mono HB.out.size))
        have HK9 := Lib.hid (HK.out.later hqx.bel)
        clear hq hqx k0 k1 k2 k3 k4 k5 k6 k7 HA HB HK HX
        have HA := HA9; have HB := HB9; have HK := HK9
        clear HA9 HB9 HK9
        go_wp2_with fail
        rw [rounds_succ]
        go_upto_region 12 with fail
        obtain ⟨n0, n1, n2, n3⟩ := HK.out.cells
        have hBr := HB.out
        have hz := HWZ.out
        have hz2 : IntKind.i64.wrap (st * G.h) = sg := by rw [IntWalk.i64_left]; exact hz
        go_cut [2] from 71 to 88 (fun s2 wx => s2 = .bool true ∧ Below w.heap.size w wx)
        case first =>
          go_region_held3 (fun w' => w'.cell? ⟨kb, 0, none⟩ = some (.int .i64 G.kd) ∧ w'.cell? ⟨kb, 1, none⟩ = some (.int .i64 G.w) ∧ w'.cell? ⟨kb, 2, none⟩ = some (.int .i64 G.h) ∧ w'.cell? ⟨kb, 3, none⟩ = some (.int .i64 G.m) ∧ Below w.heap.size w w')
            (first | (with_reducible exact ⟨n0, n1, n2, n3, hBr⟩) | exact ⟨n0, n1, n2, n3, hBr.trans ⟨rfl, rfl, rfl, Nat.le_refl _, fun _ _ => rfl⟩⟩ | (go_split_ands; refine ⟨cell_later hb9 ?_, cell_later hb9 ?_, cell_later hb9 ?_, cell_later hb9 ?_, nw_bel ?_ hb9⟩ <;> assumption))
            (first
              | (go_at_call 37; refine (HT0.out _).mono ?_; rintro e w9 ⟨rfl, hb9⟩)
              | (go_at_call 30; refine (HT1.out _).mono ?_; rintro e w9 ⟨rfl, hb9⟩)
              | (go_at_call 41; refine (HS1.out _).mono ?_; rintro e w9 ⟨rfl, hb9⟩)
              | (go_at_call 28; refine (lives9_any _).mono ?_; rintro e w9 ⟨rfl, hb9⟩))
          all_goals
            go_wp2_with fail
            go_meet
            case rel => go_split_ands; first | exact ⟨by rfl, by assumption⟩ | exact ⟨by rfl, nw_bel (by assumption) hb9⟩
        case rest =>
          obtain ⟨rfl, hBx⟩ := hcut
          go_wp2
          go_ret
          exact ⟨rfl, hBx⟩
  · have hp0 := HP0'.out
    have hp1 := HP1'.out
    simp only [decide_eq_true m0] at hp0
    simp only [decide_eq_false m1] at hp1
    have HP0 := Lib.hid hp0
    have HP1 := Lib.hid hp1
    have HN0 := Lib.hid hn0
    have HN1 := Lib.hid hn1
    have HZS0 := Lib.hid (HS0.out m0)
    obtain ⟨s0, hs0⟩ : ∃ s, Hj.size h = s := ⟨_, rfl⟩
    rw [hs0] at HZS0
    have HZ0 : Hid ((Rw.new h).left = s0) := Lib.hid hs0
    clear hs0
    clear hp0 hp1 hn0 hn1 m0 m1
    have HA := HA4; have HB := HB4; have HK := HK4
    clear HA4 HB4 HK4
    rw [rounds_succ]
    obtain ⟨k0, k1, k2, k3, k4, k5, k6, k7⟩ := HA.out.cells
    go_wp2_with fail
    refine (HN0.out _).mono ?_
    rintro e wn ⟨b, rfl, _, hX, hb⟩
    have HXn := Lib.hid hX
    clear hX
    have HA' := Lib.hid (HA.out.later hb)
    have HB' := Lib.hid (HB.out.trans (hb.mono HB.out.size))
    have HK' := Lib.hid (HK.out.later hb)
    clear hb k0 k1 k2 k3 k4 k5 k6 k7 HA HB HK
    obtain ⟨k0, k1, k2, k3, k4, k5, k6, k7⟩ := HA'.out.cells
    go_wp2_with fail
    refine (HP0.out _).mono ?_
    rintro e wm ⟨rfl, hb⟩
    have HA := Lib.hid (HA'.out.later hb)
    have HB := Lib.hid (HB'.out.trans (hb.mono HB'.out.size))
    have HK := Lib.hid (HK'.out.later hb)
    have HX := Lib.hid (HXn.out.later hb)
    clear hb k0 k1 k2 k3 k4 k5 k6 k7 HA' HB' HK'
    clear HXn
    go_upto_region 10 with fail
    have hq : NwQ wm b g h G (Rw.new h) wm := ⟨HX.out, HA.out, .refl _ _⟩
    obtain ⟨k0, k1, k2, k3, k4, k5, k6, k7⟩ := HA.out.cells
    go_cut [70] from 49 to 70 (fun s70 wx => s70 = .bool false ∧ NwQ wm b g h G (Rw.new h) wx)
    case first =>
      go_region_held3 (fun w' => w'.cell? ⟨g, 0, none⟩ = some (.int .i64 h.kd) ∧ w'.cell? ⟨g, 1, none⟩ = some (.int .i64 h.w) ∧ w'.cell? ⟨g, 2, none⟩ = some (.int .i64 h.h) ∧ w'.cell? ⟨g, 3, none⟩ = some (.int .i64 h.m) ∧ w'.cell? ⟨g, 4, none⟩ = some (.int .i64 G.kd) ∧ w'.cell? ⟨g, 5, none⟩ = some (.int .i64 G.w) ∧ w'.cell? ⟨g, 6, none⟩ = some (.int .i64 G.h) ∧ w'.cell? ⟨g, 7, none⟩ = some (.int .i64 G.m) ∧ NwQ wm b g h G (Rw.new h) w')
        (first | (with_reducible exact NwQ.all hq) | (with_reducible exact NwQ.all hq.drew) | (go_split_ands; with_reducible exact NwQ.all (‹NwQ wm b g h G (Rw.new h) _›)) | (go_split_ands; with_reducible exact NwQ.all (NwQ.drew (‹NwQ wm b g h G (Rw.new h) _›))))
        (first
          | (go_at_call 35; go_split_ands; refine (NwQ.left (by assumption) HZ0.out).mono ?_; rintro e wa ⟨rfl, rfl⟩)
          | (go_at_call 34; go_split_ands; refine (NwQ.rows (by assumption) rfl).mono ?_; rintro e wa ⟨rfl, rfl⟩)
          | (go_at_call 36; go_split_ands; refine (NwQ.err (by assumption) rfl).mono ?_; rintro e wa ⟨rfl, rfl⟩)
          | (go_at_call 41; go_split_ands; refine (HZS0.out _).mono ?_; rintro e wa ⟨rfl, hba⟩; have hqa := NwQ.later (‹NwQ wm b g h G (Rw.new h) _›) hba))
      all_goals
        go_wp2_with fail
        go_meet
        case rel => exact ⟨by rfl, by assumption⟩
    case rest =>
      obtain ⟨rfl, hqx⟩ := hcut
      have HA9 := Lib.hid hqx.a
      have HB9 := Lib.hid (HB.out.trans (hqx.bel.mono HB.out.size))
      have HK9 := Lib.hid (HK.out.later hqx.bel)
      clear hq hqx k0 k1 k2 k3 k4 k5 k6 k7 HA HB HK HX
      have HA := HA9; have HB := HB9; have HK := HK9
      clear HA9 HB9 HK9
      go_wp2_with fail
      rw [rounds_succ]
      obtain ⟨k0, k1, k2, k3, k4, k5, k6, k7⟩ := HA.out.cells
      go_wp2_with fail
      refine (HN1.out _).mono ?_
      rintro e wn ⟨rfl, hb⟩
      have HA' := Lib.hid (HA.out.later hb)
      have HB' := Lib.hid (HB.out.trans (hb.mono HB.out.size))
      have HK' := Lib.hid (HK.out.later hb)
      clear hb k0 k1 k2 k3 k4 k5 k6 k7 HA HB HK
      obtain ⟨k0, k1, k2, k3, k4, k5, k6, k7⟩ := HA'.out.cells
      go_wp2_with fail
      refine (HP1.out _).mono ?_
      rintro e wm ⟨rfl, hb⟩
      have HA := Lib.hid (HA'.out.later hb)
      have HB := Lib.hid (HB'.out.trans (hb.mono HB'.out.size))
      have HK := Lib.hid (HK'.out.later hb)
      clear hb k0 k1 k2 k3 k4 k5 k6 k7 HA' HB' HK'
      go_upto_region 10 with fail
      go_region
      have HAd : Hid (Ha wm.drew g h G) := Lib.hid HA.out
      have HBd : Hid (Below w.heap.size w wm.drew) := Lib.hid (HB.out.trans ⟨rfl, rfl, rfl, Nat.le_refl _, fun _ _ => rfl⟩)
      have HKd : Hid (Hb wm.drew kb 25 G) := Lib.hid HK.out
      clear HA HB HK
      generalize wm.drew = wd at HAd HBd HKd ⊢
      have HA := HAd; have HB := HBd; have HK := HKd
      clear HAd HBd HKd
      go_wp2_with fail
      rw [rounds_succ]
      go_upto_region 12 with fail
      obtain ⟨n0, n1, n2, n3⟩ := HK.out.cells
      have hBr := HB.out
      have hz := HWZ.out
      have hz2 : IntKind.i64.wrap (st * G.h) = sg := by rw [IntWalk.i64_left]; exact hz
      go_cut [2] from 71 to 88 (fun s2 wx => s2 = .bool true ∧ Below w.heap.size w wx)
      case first =>
        go_region_held3 (fun w' => w'.cell? ⟨kb, 0, none⟩ = some (.int .i64 G.kd) ∧ w'.cell? ⟨kb, 1, none⟩ = some (.int .i64 G.w) ∧ w'.cell? ⟨kb, 2, none⟩ = some (.int .i64 G.h) ∧ w'.cell? ⟨kb, 3, none⟩ = some (.int .i64 G.m) ∧ Below w.heap.size w w')
          (first | (with_reducible exact ⟨n0, n1, n2, n3, hBr⟩) | exact ⟨n0, n1, n2, n3, hBr.trans ⟨rfl, rfl, rfl, Nat.le_refl _, fun _ _ => rfl⟩⟩ | (go_split_ands; refine ⟨cell_later hb9 ?_, cell_later hb9 ?_, cell_later hb9 ?_, cell_later hb9 ?_, nw_bel ?_ hb9⟩ <;> assumption))
          (first
            | (go_at_call 37; refine (HT0.out _).mono ?_; rintro e w9 ⟨rfl, hb9⟩)
            | (go_at_call 30; refine (HT1.out _).mono ?_; rintro e w9 ⟨rfl, hb9⟩)
            | (go_at_call 41; refine (HS1.out _).mono ?_; rintro e w9 ⟨rfl, hb9⟩)
            | (go_at_call 28; refine (lives9_any _).mono ?_; rintro e w9 ⟨rfl, hb9⟩))
        all_goals
          go_wp2_with fail
          go_meet
          case rel => go_split_ands; first | exact ⟨by rfl, by assumption⟩ | exact ⟨by rfl, nw_bel (by assumption) hb9⟩
      case rest =>
        obtain ⟨rfl, hBx⟩ := hcut
        go_wp2
        go_ret
        exact ⟨rfl, hBx⟩
  · have hp0 := HP0'.out
    have hp1 := HP1'.out
    simp only [decide_eq_false m0] at hp0
    simp only [decide_eq_true m1] at hp1
    have HP0 := Lib.hid hp0
    have HP1 := Lib.hid hp1
    have HN0 := Lib.hid hn0
    have HN1 := Lib.hid hn1
    have HZS1 := HS1
    have HZ1 : Hid ((Rw.new G).left = sg) := Lib.hid HSG.out
    clear hp0 hp1 hn0 hn1 m0 m1
    have HA := HA4; have HB := HB4; have HK := HK4
    clear HA4 HB4 HK4
    rw [rounds_succ]
    obtain ⟨k0, k1, k2, k3, k4, k5, k6, k7⟩ := HA.out.cells
    go_wp2_with fail
    refine (HN0.out _).mono ?_
    rintro e wn ⟨rfl, hb⟩
    have HA' := Lib.hid (HA.out.later hb)
    have HB' := Lib.hid (HB.out.trans (hb.mono HB.out.size))
    have HK' := Lib.hid (HK.out.later hb)
    clear hb k0 k1 k2 k3 k4 k5 k6 k7 HA HB HK
    obtain ⟨k0, k1, k2, k3, k4, k5, k6, k7⟩ := HA'.out.cells
    go_wp2_with fail
    refine (HP0.out _).mono ?_
    rintro e wm ⟨rfl, hb⟩
    have HA := Lib.hid (HA'.out.later hb)
    have HB := Lib.hid (HB'.out.trans (hb.mono HB'.out.size))
    have HK := Lib.hid (HK'.out.later hb)
    clear hb k0 k1 k2 k3 k4 k5 k6 k7 HA' HB' HK'
    go_upto_region 10 with fail
    go_region
    have HAd : Hid (Ha wm.drew g h G) := Lib.hid HA.out
    have HBd : Hid (Below w.heap.size w wm.drew) := Lib.hid (HB.out.trans ⟨rfl, rfl, rfl, Nat.le_refl _, fun _ _ => rfl⟩)
    have HKd : Hid (Hb wm.drew kb 25 G) := Lib.hid HK.out
    clear HA HB HK
    generalize wm.drew = wd at HAd HBd HKd ⊢
    have HA := HAd; have HB := HBd; have HK := HKd
    clear HAd HBd HKd
    go_wp2_with fail
    rw [rounds_succ]
    obtain ⟨k0, k1, k2, k3, k4, k5, k6, k7⟩ := HA.out.cells
    go_wp2_with fail
    refine (HN1.out _).mono ?_
    rintro e wn ⟨b, rfl, _, hX, hb⟩
    have HXn := Lib.hid hX
    clear hX
    have HA' := Lib.hid (HA.out.later hb)
    have HB' := Lib.hid (HB.out.trans (hb.mono HB.out.size))
    have HK' := Lib.hid (HK.out.later hb)
    clear hb k0 k1 k2 k3 k4 k5 k6 k7 HA HB HK
    obtain ⟨k0, k1, k2, k3, k4, k5, k6, k7⟩ := HA'.out.cells
    go_wp2_with fail
    refine (HP1.out _).mono ?_
    rintro e wm ⟨rfl, hb⟩
    have HA := Lib.hid (HA'.out.later hb)
    have HB := Lib.hid (HB'.out.trans (hb.mono HB'.out.size))
    have HK := Lib.hid (HK'.out.later hb)
    have HX := Lib.hid (HXn.out.later hb)
    clear hb k0 k1 k2 k3 k4 k5 k6 k7 HA' HB' HK'
    clear HXn
    go_upto_region 10 with fail
    have hq : NwQ wm b g h G (Rw.new G) wm := ⟨HX.out, HA.out, .refl _ _⟩
    obtain ⟨k0, k1, k2, k3, k4, k5, k6, k7⟩ := HA.out.cells
    go_cut [70] from 49 to 70 (fun s70 wx => s70 = .bool false ∧ NwQ wm b g h G (Rw.new G) wx)
    case first =>
      go_region_held3 (fun w' => w'.cell? ⟨g, 0, none⟩ = some (.int .i64 h.kd) ∧ w'.cell? ⟨g, 1, none⟩ = some (.int .i64 h.w) ∧ w'.cell? ⟨g, 2, none⟩ = some (.int .i64 h.h) ∧ w'.cell? ⟨g, 3, none⟩ = some (.int .i64 h.m) ∧ w'.cell? ⟨g, 4, none⟩ = some (.int .i64 G.kd) ∧ w'.cell? ⟨g, 5, none⟩ = some (.int .i64 G.w) ∧ w'.cell? ⟨g, 6, none⟩ = some (.int .i64 G.h) ∧ w'.cell? ⟨g, 7, none⟩ = some (.int .i64 G.m) ∧ NwQ wm b g h G (Rw.new G) w')
        (first | (with_reducible exact NwQ.all hq) | (with_reducible exact NwQ.all hq.drew) | (go_split_ands; with_reducible exact NwQ.all (‹NwQ wm b g h G (Rw.new G) _›)) | (go_split_ands; with_reducible exact NwQ.all (NwQ.drew (‹NwQ wm b g h G (Rw.new G) _›))))
        (first
          | (go_at_call 35; go_split_ands; refine (NwQ.left (by assumption) HZ1.out).mono ?_; rintro e wa ⟨rfl, rfl⟩)
          | (go_at_call 34; go_split_ands; refine (NwQ.rows (by assumption) rfl).mono ?_; rintro e wa ⟨rfl, rfl⟩)
          | (go_at_call 36; go_split_ands; refine (NwQ.err (by assumption) rfl).mono ?_; rintro e wa ⟨rfl, rfl⟩)
          | (go_at_call 41; go_split_ands; refine (HZS1.out _).mono ?_; rintro e wa ⟨rfl, hba⟩; have hqa := NwQ.later (‹NwQ wm b g h G (Rw.new G) _›) hba))
      all_goals
        go_wp2_with fail
        go_meet
        case rel => exact ⟨by rfl, by assumption⟩
    case rest =>
      obtain ⟨rfl, hqx⟩ := hcut
      have HA9 := Lib.hid hqx.a
      have HB9 := Lib.hid (HB.out.trans (hqx.bel.mono HB.out.size))
      have HK9 := Lib.hid (HK.out.later hqx.bel)
      clear hq hqx k0 k1 k2 k3 k4 k5 k6 k7 HA HB HK HX
      have HA := HA9; have HB := HB9; have HK := HK9
      clear HA9 HB9 HK9
      go_wp2_with fail
      rw [rounds_succ]
      go_upto_region 12 with fail
      obtain ⟨n0, n1, n2, n3⟩ := HK.out.cells
      have hBr := HB.out
      have hz := HWZ.out
      have hz2 : IntKind.i64.wrap (st * G.h) = sg := by rw [IntWalk.i64_left]; exact hz
      go_cut [2] from 71 to 88 (fun s2 wx => s2 = .bool true ∧ Below w.heap.size w wx)
      case first =>
        go_region_held3 (fun w' => w'.cell? ⟨kb, 0, none⟩ = some (.int .i64 G.kd) ∧ w'.cell? ⟨kb, 1, none⟩ = some (.int .i64 G.w) ∧ w'.cell? ⟨kb, 2, none⟩ = some (.int .i64 G.h) ∧ w'.cell? ⟨kb, 3, none⟩ = some (.int .i64 G.m) ∧ Below w.heap.size w w')
          (first | (with_reducible exact ⟨n0, n1, n2, n3, hBr⟩) | exact ⟨n0, n1, n2, n3, hBr.trans ⟨rfl, rfl, rfl, Nat.le_refl _, fun _ _ => rfl⟩⟩ | (go_split_ands; refine ⟨cell_later hb9 ?_, cell_later hb9 ?_, cell_later hb9 ?_, cell_later hb9 ?_, nw_bel ?_ hb9⟩ <;> assumption))
          (first
            | (go_at_call 37; refine (HT0.out _).mono ?_; rintro e w9 ⟨rfl, hb9⟩)
            | (go_at_call 30; refine (HT1.out _).mono ?_; rintro e w9 ⟨rfl, hb9⟩)
            | (go_at_call 41; refine (HS1.out _).mono ?_; rintro e w9 ⟨rfl, hb9⟩)
            | (go_at_call 28; refine (lives9_any _).mono ?_; rintro e w9 ⟨rfl, hb9⟩))
        all_goals
          go_wp2_with fail
          go_meet
          case rel => go_split_ands; first | exact ⟨by rfl, by assumption⟩ | exact ⟨by rfl, nw_bel (by assumption) hb9⟩
      case rest =>
        obtain ⟨rfl, hBx⟩ := hcut
        go_wp2
        go_ret
        exact ⟨rfl, hBx⟩
  · have hp0 := HP0'.out
    have hp1 := HP1'.out
    simp only [decide_eq_false m0] at hp0
    simp only [decide_eq_false m1] at hp1
    have HP0 := Lib.hid hp0
    have HP1 := Lib.hid hp1
    have HN0 := Lib.hid hn0
    have HN1 := Lib.hid hn1
    clear hp0 hp1 hn0 hn1 m0 m1
    have HA := HA4; have HB := HB4; have HK := HK4
    clear HA4 HB4 HK4
    rw [rounds_succ]
    obtain ⟨k0, k1, k2, k3, k4, k5, k6, k7⟩ := HA.out.cells
    go_wp2_with fail
    refine (HN0.out _).mono ?_
    rintro e wn ⟨rfl, hb⟩
    have HA' := Lib.hid (HA.out.later hb)
    have HB' := Lib.hid (HB.out.trans (hb.mono HB.out.size))
    have HK' := Lib.hid (HK.out.later hb)
    clear hb k0 k1 k2 k3 k4 k5 k6 k7 HA HB HK
    obtain ⟨k0, k1, k2, k3, k4, k5, k6, k7⟩ := HA'.out.cells
    go_wp2_with fail
    refine (HP0.out _).mono ?_
    rintro e wm ⟨rfl, hb⟩
    have HA := Lib.hid (HA'.out.later hb)
    have HB := Lib.hid (HB'.out.trans (hb.mono HB'.out.size))
    have HK := Lib.hid (HK'.out.later hb)
    clear hb k0 k1 k2 k3 k4 k5 k6 k7 HA' HB' HK'
    go_upto_region 10 with fail
    go_region
    have HAd : Hid (Ha wm.drew g h G) := Lib.hid HA.out
    have HBd : Hid (Below w.heap.size w wm.drew) := Lib.hid (HB.out.trans ⟨rfl, rfl, rfl, Nat.le_refl _, fun _ _ => rfl⟩)
    have HKd : Hid (Hb wm.drew kb 25 G) := Lib.hid HK.out
    clear HA HB HK
    generalize wm.drew = wd at HAd HBd HKd ⊢
    have HA := HAd; have HB := HBd; have HK := HKd
    clear HAd HBd HKd
    go_wp2_with fail
    rw [rounds_succ]
    obtain ⟨k0, k1, k2, k3, k4, k5, k6, k7⟩ := HA.out.cells
    go_wp2_with fail
    refine (HN1.out _).mono ?_
    rintro e wn ⟨rfl, hb⟩
    have HA' := Lib.hid (HA.out.later hb)
    have HB' := Lib.hid (HB.out.trans (hb.mono HB.out.size))
    have HK' := Lib.hid (HK.out.later hb)
    clear hb k0 k1 k2 k3 k4 k5 k6 k7 HA HB HK
    obtain ⟨k0, k1, k2, k3, k4, k5, k6, k7⟩ := HA'.out.cells
    go_wp2_with fail
    refine (HP1.out _).mono ?_
    rintro e wm ⟨rfl, hb⟩
    have HA := Lib.hid (HA'.out.later hb)
    have HB := Lib.hid (HB'.out.trans (hb.mono HB'.out.size))
    have HK := Lib.hid (HK'.out.later hb)
    clear hb k0 k1 k2 k3 k4 k5 k6 k7 HA' HB' HK'
    go_upto_region 10 with fail
    go_region
    have HAd : Hid (Ha wm.drew g h G) := Lib.hid HA.out
    have HBd : Hid (Below w.heap.size w wm.drew) := Lib.hid (HB.out.trans ⟨rfl, rfl, rfl, Nat.le_refl _, fun _ _ => rfl⟩)
    have HKd : Hid (Hb wm.drew kb 25 G) := Lib.hid HK.out
    clear HA HB HK
    generalize wm.drew = wd at HAd HBd HKd ⊢
    have HA := HAd; have HB := HBd; have HK := HKd
    clear HAd HBd HKd
    go_wp2_with fail
    rw [rounds_succ]
    go_upto_region 12 with fail
    obtain ⟨n0, n1, n2, n3⟩ := HK.out.cells
    have hBr := HB.out
    have hz := HWZ.out
    have hz2 : IntKind.i64.wrap (st * G.h) = sg := by rw [IntWalk.i64_left]; exact hz
    go_cut [2] from 71 to 88 (fun s2 wx => s2 = .bool true ∧ Below w.heap.size w wx)
    case first =>
      go_region_held3 (fun w' => w'.cell? ⟨kb, 0, none⟩ = some (.int .i64 G.kd) ∧ w'.cell? ⟨kb, 1, none⟩ = some (.int .i64 G.w) ∧ w'.cell? ⟨kb, 2, none⟩ = some (.int .i64 G.h) ∧ w'.cell? ⟨kb, 3, none⟩ = some (.int .i64 G.m) ∧ Below w.heap.size w w')
        (first | (with_reducible exact ⟨n0, n1, n2, n3, hBr⟩) | exact ⟨n0, n1, n2, n3, hBr.trans ⟨rfl, rfl, rfl, Nat.le_refl _, fun _ _ => rfl⟩⟩ | (go_split_ands; refine ⟨cell_later hb9 ?_, cell_later hb9 ?_, cell_later hb9 ?_, cell_later hb9 ?_, nw_bel ?_ hb9⟩ <;> assumption))
        (first
          | (go_at_call 37; refine (HT0.out _).mono ?_; rintro e w9 ⟨rfl, hb9⟩)
          | (go_at_call 30; refine (HT1.out _).mono ?_; rintro e w9 ⟨rfl, hb9⟩)
          | (go_at_call 41; refine (HS1.out _).mono ?_; rintro e w9 ⟨rfl, hb9⟩)
          | (go_at_call 28; refine (lives9_any _).mono ?_; rintro e w9 ⟨rfl, hb9⟩))
      all_goals
        go_wp2_with fail
        go_meet
        case rel => go_split_ands; first | exact ⟨by rfl, by assumption⟩ | exact ⟨by rfl, nw_bel (by assumption) hb9⟩
    case rest =>
      obtain ⟨rfl, hBx⟩ := hcut
      go_wp2
      go_ret
      exact ⟨rfl, hBx⟩
end Go.Proofs.Ytflpocnbmpdhiaa

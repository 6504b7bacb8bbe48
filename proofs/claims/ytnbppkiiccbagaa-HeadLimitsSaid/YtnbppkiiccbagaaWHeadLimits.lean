/- HeadLimits: what is within limits is read, and what is beyond one is out of range: the walk of the law. No condition. -/
import Derived.Test.YtnbppkiiccbagaaHedO
import Derived.Test.YtnbppkiiccbagaaHedX
namespace Go.Proofs.Ytnbppkiiccbagaa
open Go.RowKit
set_option linter.unusedVariables false

theorem Hj.parse_e {s : ByteArray} (hs : s.size ≤ 1000) (a b c : Int) (er : Int) (he : (Hd.parseV (Hd.limits a b c) (bytesOf s)).2.2 = er) (W : World) :
    Calls Try.prog 36 #[.string s, .agg #[.int .i64 a, .int .i64 b, .int .i64 c]] W fun e w' => ∃ (h : Hd.H) (n : Int), e = .returned (.tuple #[.agg #[.int .i64 h.kd, .int .i64 h.w, .int .i64 h.h, .int .i64 h.m], .int .i64 n, .int .i64 er]) ∧ Below W.heap.size W w' := by
  refine (hparse_any s hs a b c W).mono ?_
  rintro e w' ⟨rfl, hb⟩
  exact ⟨_, _, by rw [he]; rfl, hb⟩
set_option maxRecDepth 100000 in
set_option maxHeartbeats 8000000 in
theorem headLimits_walk (a0k0 a0w1 a0h2 a0m3 : Int) (a1w0 a1h1 a1m2 : Int) (w : World) (w00 : (Lit.int .i64 a0k0).wf = true) (w01 : (Lit.int .i64 a0w1).wf = true) (w02 : (Lit.int .i64 a0h2).wf = true) (w03 : (Lit.int .i64 a0m3).wf = true) (w10 : (Lit.int .i64 a1w0).wf = true) (w11 : (Lit.int .i64 a1h1).wf = true) (w12 : (Lit.int .i64 a1m2).wf = true) :
    Calls Try.prog 9 #[.agg #[.int .i64 a0k0, .int .i64 a0w1, .int .i64 a0h2, .int .i64 a0m3], .agg #[.int .i64 a1w0, .int .i64 a1h1, .int .i64 a1m2]] w fun e w' => e = .returned (.bool true) ∧ Below w.heap.size w w' := by
  have HF : Hj.Fit ⟨a0k0, a0w1, a0h2, a0m3⟩ := ⟨wfI w00, wfI w01, wfI w02, wfI w03⟩
  have HGD := Lib.hid (hgood_any _ HF)
  have hM := Hj.may_good ⟨a0k0, a0w1, a0h2, a0m3⟩
  generalize Hj.good ⟨a0k0, a0w1, a0h2, a0m3⟩ = G at HGD hM
  have HOF := Lib.hid (hof_any G)
  have HWR := Lib.hid (hwrite_any G (Hj.may_fit hM))
  rw [Hj.wr_may hM] at HWR
  have hts := Hj.text_size (Hj.may_fit hM)
  have i0 := wfI w10
  have i1 := wfI w11
  have i2 := wfI w12
  have HA : Hid (∀ W, Calls Try.prog 34 #[.int .i64 a1w0, .int .i64 4096] W fun e w' => e = .returned (.int .i64 (Ar.around a1w0 4096)) ∧ W = w') := fun W => aroundOf a1w0 4096 i0.1 i0.2 (by omega) (by omega) W
  have HB : Hid (∀ W, Calls Try.prog 34 #[.int .i64 a1h1, .int .i64 65536] W fun e w' => e = .returned (.int .i64 (Ar.around a1h1 65536)) ∧ W = w') := fun W => aroundOf a1h1 65536 i1.1 i1.2 (by omega) (by omega) W
  have HC : Hid (∀ W, Calls Try.prog 34 #[.int .i64 a1m2, .int .i64 65535] W fun e w' => e = .returned (.int .i64 (Ar.around a1m2 65535)) ∧ W = w') := fun W => aroundOf a1m2 65535 i2.1 i2.2 (by omega) (by omega) W
  have b0 := Ar.around_lt a1w0 4096 (by omega)
  have b1 := Ar.around_lt a1h1 65536 (by omega)
  have b2 := Ar.around_lt a1m2 65535 (by omega)
  generalize Ar.around a1w0 4096 = x0 at *
  generalize Ar.around a1h1 65536 = x1 at *
  generalize Ar.around a1m2 65535 = x2 at *
  obtain ⟨a, ha⟩ : ∃ y, 1 + x0 = y := ⟨_, rfl⟩
  obtain ⟨b, hb⟩ : ∃ y, 1 + x1 = y := ⟨_, rfl⟩
  obtain ⟨c, hc⟩ : ∃ y, 1 + x2 = y := ⟨_, rfl⟩
  have a1 : 1 ≤ a := by omega
  have a2 : a ≤ 4096 := by omega
  have c1 : 1 ≤ b := by omega
  have c2 : b ≤ 65536 := by omega
  have d1 : 1 ≤ c := by omega
  have d2 : c ≤ 65535 := by omega
  have f0 : IntKind.i64.wrap (1 + x0) = a := by rw [IntWalk.i64_in] <;> omega
  have f1 : IntKind.i64.wrap (1 + x1) = b := by rw [IntWalk.i64_in] <;> omega
  have f2 : IntKind.i64.wrap (1 + x2) = c := by rw [IntWalk.i64_in] <;> omega
  have hlim := Hj.limits_id a1 a2 c1 c2 d1 d2
  have hOk := Hd.limits_ok a b c
  obtain ⟨⟨g1, g2⟩, ⟨g3, g4⟩, ⟨g5, g6⟩, ⟨g7, g8⟩, g9⟩ := hM
  have hM : Hd.May G := ⟨⟨g1, g2⟩, ⟨g3, g4⟩, ⟨g5, g6⟩, ⟨g7, g8⟩, g9⟩
  have hlim2 := Hj.limits_id g3 g4 g5 g6 g7 g8
  have HP2 : Hid (∀ W, Calls Try.prog 36 #[.string (Hj.text G), .agg #[.int .i64 G.w, .int .i64 G.h, .int .i64 G.m]] W fun e w' => ∃ (h : Hd.H) (n : Int), e = .returned (.tuple #[.agg #[.int .i64 h.kd, .int .i64 h.w, .int .i64 h.h, .int .i64 h.m], .int .i64 n, .int .i64 0]) ∧ Below W.heap.size W w') := fun W => Hj.parse_e (by omega) _ _ _ 0 (by rw [hlim2, Hj.text_parse0 hM (Int.le_refl _) (Int.le_refl _) (.inr (Int.le_refl _))]) W
  have HER : ∃ er : Int, (Hd.parseV (Hd.limits a b c) (bytesOf (Hj.text G))).2.2 = er ∧ ((G.w ≤ a ∧ G.h ≤ b ∧ G.m ≤ c ∧ er = 0) ∨ (G.w ≤ a ∧ G.h ≤ b ∧ ¬ G.m ≤ c ∧ er = 4) ∨ (G.w ≤ a ∧ ¬ G.h ≤ b ∧ er = 4) ∨ (¬ G.w ≤ a ∧ er = 4)) := by
    refine ⟨_, rfl, ?_⟩
    rw [hlim] at hOk ⊢
    by_cases k1 : G.w ≤ a
    · by_cases k2 : G.h ≤ b
      · by_cases k3 : G.m ≤ c
        · exact .inl ⟨k1, k2, k3, by rw [Hj.text_parse0 hM k1 k2 (.inr k3)]⟩
        · refine .inr (.inl ⟨k1, k2, k3, Hj.text_beyond hM hOk fun h => ?_⟩)
          rcases h.2.2 with hbt | h3
          · have := g9 hbt; omega
          · exact k3 h3
      · exact .inr (.inr (.inl ⟨k1, k2, Hj.text_beyond hM hOk fun h => k2 h.2.1⟩))
    · exact .inr (.inr (.inr ⟨k1, Hj.text_beyond hM hOk fun h => k1 h.1⟩))
  obtain ⟨er, her, hcase⟩ := HER
  have HP1 : Hid (∀ W, Calls Try.prog 36 #[.string (Hj.text G), .agg #[.int .i64 a, .int .i64 b, .int .i64 c]] W fun e w' => ∃ (h : Hd.H) (n : Int), e = .returned (.tuple #[.agg #[.int .i64 h.kd, .int .i64 h.w, .int .i64 h.h, .int .i64 h.m], .int .i64 n, .int .i64 er]) ∧ Below W.heap.size W w') := fun W => Hj.parse_e (by omega) _ _ _ er her W
  have HCS := Lib.hid hcase
  have D1 := Lib.hid d1
  generalize Hj.text G = T at HWR HP1 HP2
  obtain ⟨kd, ww, hh, m⟩ := G
  unfold agH at HGD HOF HWR
  simp only at HP2 HCS
  clear her hcase hM HF w00 w01 w02 w03 w10 w11 w12 b0 b1 b2 ha hb hc a1 a2 c1 c2 d1 d2 hlim hOk hlim2 g1 g2 g3 g4 g5 g6 g7 g8 g9 i0 i1 i2 hts
  have hBt : Below w.heap.size w w := .refl _ _
  go_enter Try.func9, Try.ntmps9
  go_wp2_with fail
  refine (HGD.out _).mono ?_
  rintro e w1 ⟨rfl, hb1⟩
  have hA1 : Below w.heap.size w ((w.alloc (.cells #[.int .i64 a0k0, .int .i64 a0w1, .int .i64 a0h2, .int .i64 a0m3] 50)).alloc (.cells #[.int .i64 a1w0, .int .i64 a1h1, .int .i64 a1m2] 48)) := (hBt.alloc (Nat.le_refl _) _).alloc (by simp) _
  have hB1 := hA1.trans (hb1.mono (by simp; omega))
  have q0 := cell_later hb1 (show ((w.alloc (.cells #[.int .i64 a0k0, .int .i64 a0w1, .int .i64 a0h2, .int .i64 a0m3] 50)).alloc (.cells #[.int .i64 a1w0, .int .i64 a1h1, .int .i64 a1m2] 48)).cell? ⟨w.heap.size + 1, 0, none⟩ = some (.int .i64 a1w0) by simp [go_sem])
  have q1 := cell_later hb1 (show ((w.alloc (.cells #[.int .i64 a0k0, .int .i64 a0w1, .int .i64 a0h2, .int .i64 a0m3] 50)).alloc (.cells #[.int .i64 a1w0, .int .i64 a1h1, .int .i64 a1m2] 48)).cell? ⟨w.heap.size + 1, 1, none⟩ = some (.int .i64 a1h1) by simp [go_sem])
  have q2 := cell_later hb1 (show ((w.alloc (.cells #[.int .i64 a0k0, .int .i64 a0w1, .int .i64 a0h2, .int .i64 a0m3] 50)).alloc (.cells #[.int .i64 a1w0, .int .i64 a1h1, .int .i64 a1m2] 48)).cell? ⟨w.heap.size + 1, 2, none⟩ = some (.int .i64 a1m2) by simp [go_sem])
  obtain ⟨W, hW⟩ : ∃ W, w1.alloc (.cells #[.int .i64 kd, .int .i64 ww, .int .i64 hh, .int .i64 m] 50) = W := ⟨_, rfl⟩
  have hBW : Below w1.heap.size w1 W := by rw [← hW]; exact (Below.refl _ _).alloc (Nat.le_refl _) _
  have hG1 : Hb W w1.heap.size 50 ⟨kd, ww, hh, m⟩ := by rw [← hW]; exact Hb.new w1 _ ⟨kd, ww, hh, m⟩
  replace q0 := cell_later hBW q0
  replace q1 := cell_later hBW q1
  replace q2 := cell_later hBW q2
  have HBz := Lib.hid (hB1.trans (hBW.mono hB1.size))
  have HG1 := Lib.hid hG1
  have hBr : Below W.heap.size W W := .refl _ _
  go_wp2_with fail
  try rw [hW]
  clear hb1 hA1 hB1 hW hBW hG1 hBt
  go_cut [6] (fun s6 wx => ∃ p, s6 = .pointer (some ⟨p, 0, none⟩) ∧ wx.cell? ⟨p, 0, none⟩ = some (.int .i64 a) ∧ wx.cell? ⟨p, 1, none⟩ = some (.int .i64 b) ∧ wx.cell? ⟨p, 2, none⟩ = some (.int .i64 c) ∧ Below W.heap.size W wx)
  case first =>
    go_region_held3 (fun w' => w'.cell? ⟨w.heap.size + 1, 0, none⟩ = some (.int .i64 a1w0) ∧ w'.cell? ⟨w.heap.size + 1, 1, none⟩ = some (.int .i64 a1h1) ∧ w'.cell? ⟨w.heap.size + 1, 2, none⟩ = some (.int .i64 a1m2))
      (first | exact ⟨q0, q1, q2⟩ | exact ⟨cell_later (hBr.alloc (Nat.le_refl _) _) q0, cell_later (hBr.alloc (Nat.le_refl _) _) q1, cell_later (hBr.alloc (Nat.le_refl _) _) q2⟩ | exact ⟨cell_later (hBr.drew.alloc (Nat.le_refl _) _) q0, cell_later (hBr.drew.alloc (Nat.le_refl _) _) q1, cell_later (hBr.drew.alloc (Nat.le_refl _) _) q2⟩)
      (first
        | (go_at_call 34; with_reducible refine (HA.out _).mono ?_; rintro e w9 ⟨rfl, rfl⟩)
        | (go_at_call 34; with_reducible refine (HB.out _).mono ?_; rintro e w9 ⟨rfl, rfl⟩)
        | (go_at_call 34; with_reducible refine (HC.out _).mono ?_; rintro e w9 ⟨rfl, rfl⟩))
    all_goals
      go_wp2_with fail
      go_meet
      case rel => exact ⟨_, rfl, by simp [go_sem], by simp [go_sem], by simp [go_sem], (show Below W.heap.size W W.drew from hBr.drew).alloc (Nat.le_refl _) _⟩
  case rest =>
    obtain ⟨p, rfl, l0, l1, l2, hBx⟩ := hcut
    have hG2 := HG1.out.later hBx
    obtain ⟨n0, n1, n2, n3⟩ := hG2.cells
    simp only at n0 n1 n2 n3
    have hB2 := HBz.out.trans (hBx.mono HBz.out.size)
    clear q0 q1 q2 hBr hBx hG2 f0 f1 f2
    go_wp2_with fail
    refine (HOF.out _).mono ?_
    rintro e w2 ⟨rfl, hb⟩
    replace n0 := cell_later hb n0
    replace n1 := cell_later hb n1
    replace n2 := cell_later hb n2
    replace n3 := cell_later hb n3
    replace l0 := cell_later hb l0
    replace l1 := cell_later hb l1
    replace l2 := cell_later hb l2
    replace hB2 := hB2.trans (hb.mono hB2.size)
    clear hb
    go_wp2_with fail
    refine (HWR.out _).mono ?_
    rintro e w3 ⟨rfl, hb⟩
    replace n0 := cell_later hb n0
    replace n1 := cell_later hb n1
    replace n2 := cell_later hb n2
    replace n3 := cell_later hb n3
    replace l0 := cell_later hb l0
    replace l1 := cell_later hb l1
    replace l2 := cell_later hb l2
    replace hB2 := hB2.trans (hb.mono hB2.size)
    clear hb
    go_wp2_with fail
    refine (HP1.out _).mono ?_
    rintro e w4 ⟨h4, k4, rfl, hb⟩
    replace n0 := cell_later hb n0
    replace n1 := cell_later hb n1
    replace n2 := cell_later hb n2
    replace n3 := cell_later hb n3
    replace l0 := cell_later hb l0
    replace l1 := cell_later hb l1
    replace l2 := cell_later hb l2
    replace hB2 := hB2.trans (hb.mono hB2.size)
    clear hb
    obtain ⟨V, hV⟩ : ∃ V, w4.alloc (.cells #[.int .i64 h4.kd, .int .i64 h4.w, .int .i64 h4.h, .int .i64 h4.m] 59) = V := ⟨_, rfl⟩
    have hBV : Below w4.heap.size w4 V := by rw [← hV]; exact (Below.refl _ _).alloc (Nat.le_refl _) _
    replace n0 := cell_later hBV n0
    replace n1 := cell_later hBV n1
    replace n2 := cell_later hBV n2
    replace n3 := cell_later hBV n3
    replace l0 := cell_later hBV l0
    replace l1 := cell_later hBV l1
    replace l2 := cell_later hBV l2
    replace hB2 := hB2.trans (hBV.mono hB2.size)
    go_wp2_with fail
    try rw [hV]
    clear hBV hV
    refine (HP2.out _).mono ?_
    rintro e w5 ⟨h5, k5, rfl, hb⟩
    replace n0 := cell_later hb n0
    replace n1 := cell_later hb n1
    replace n2 := cell_later hb n2
    replace n3 := cell_later hb n3
    replace l0 := cell_later hb l0
    replace l1 := cell_later hb l1
    replace l2 := cell_later hb l2
    replace hB2 := hB2.trans (hb.mono hB2.size)
    clear hb
    obtain ⟨U, hU⟩ : ∃ U, w5.alloc (.cells #[.int .i64 h5.kd, .int .i64 h5.w, .int .i64 h5.h, .int .i64 h5.m] 59) = U := ⟨_, rfl⟩
    have hBV : Below w5.heap.size w5 U := by rw [← hU]; exact (Below.refl _ _).alloc (Nat.le_refl _) _
    replace n0 := cell_later hBV n0
    replace n1 := cell_later hBV n1
    replace n2 := cell_later hBV n2
    replace n3 := cell_later hBV n3
    replace l0 := cell_later hBV l0
    replace l1 := cell_later hBV l1
    replace l2 := cell_later hBV l2
    have HBU := Lib.hid (hB2.trans (hBV.mono hB2.size))
    clear hBV hB2
    rcases HCS.out with ⟨e1, e2, e3, rfl⟩ | ⟨e1, e2, e3, rfl⟩ | ⟨e1, e2, rfl⟩ | ⟨e1, rfl⟩
    · go_wp2_with (go_at_call 33; refine (lives6_any _).mono ?_; rintro e w8 ⟨rfl, hb8⟩)
      go_ret
      exact ⟨rfl, HBU.out.trans (hb8.mono HBU.out.size)⟩
    · have e4 : (m == 1) = false := by have := D1.out; simp; omega
      have e5 : decide (m ≤ c) = false := decide_eq_false (by omega)
      go_wp2_with (go_at_call 33; refine (lives6_any _).mono ?_; rintro e w8 ⟨rfl, hb8⟩)
      go_ret
      exact ⟨rfl, HBU.out.trans (hb8.mono HBU.out.size)⟩
    · go_wp2_with (go_at_call 33; refine (lives6_any _).mono ?_; rintro e w8 ⟨rfl, hb8⟩)
      go_ret
      exact ⟨rfl, HBU.out.trans (hb8.mono HBU.out.size)⟩
    · go_wp2_with (go_at_call 33; refine (lives6_any _).mono ?_; rintro e w8 ⟨rfl, hb8⟩)
      go_ret
      exact ⟨rfl, HBU.out.trans (hb8.mono HBU.out.size)⟩
end Go.Proofs.Ytnbppkiiccbagaa

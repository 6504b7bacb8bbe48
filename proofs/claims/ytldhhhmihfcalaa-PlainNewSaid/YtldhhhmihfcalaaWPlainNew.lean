/- PlainNew: which heads are read, and written, is told as the document says: the walk of the law. No condition. -/
import Derived.Test.YtldhhhmihfcalaaPlO
namespace Go.Proofs.Ytldhhhmihfcalaa
open Go.RowKit
set_option linter.unusedVariables false

theorem plNew_two (h : Hd.H) (hf : Hj.Fit h) : (Pl.May h ∧ ∀ W, Calls Try.prog 42 #[agH h] W fun e w' => ∃ b, e = .returned (.tuple #[.pointer (some ⟨b, 0, none⟩), .int .i64 0]) ∧ Below W.heap.size W w') ∨ (¬ Pl.May h ∧ ∀ W, Calls Try.prog 42 #[agH h] W fun e w' => e = .returned (.tuple #[.pointer none, .int .i64 1]) ∧ Below W.heap.size W w') := by
  by_cases hm : Pl.May h
  · refine .inl ⟨hm, fun W => (plNew_yes h hf hm W).mono ?_⟩
    rintro e w' ⟨b, he, _, _, hb⟩
    exact ⟨b, he, hb⟩
  · exact .inr ⟨hm, fun W => plNew_no h hf hm W⟩
set_option maxRecDepth 100000 in
set_option maxHeartbeats 8000000 in
theorem plainNew_walk (a1k0 a1w1 a1h2 a1m3 : Int) (w : World) (w00 : (Lit.int .i64 a1k0).wf = true) (w01 : (Lit.int .i64 a1w1).wf = true) (w02 : (Lit.int .i64 a1h2).wf = true) (w03 : (Lit.int .i64 a1m3).wf = true) :
    Calls Try.prog 9 #[.agg #[.int .i64 a1k0, .int .i64 a1w1, .int .i64 a1h2, .int .i64 a1m3]] w fun e w' => e = .returned (.bool true) ∧ Below w.heap.size w w' := by
  have HF : Hj.Fit ⟨a1k0, a1w1, a1h2, a1m3⟩ := ⟨wfI w00, wfI w01, wfI w02, wfI w03⟩
  have hG := hgoodM_any 4096 (by decide) (by decide) _ HF
  obtain ⟨g1, g2, g3, g4, _⟩ := Pl.goodM_in 4096 (by decide) ⟨a1k0, a1w1, a1h2, a1m3⟩
  generalize Pl.goodM 4096 ⟨a1k0, a1w1, a1h2, a1m3⟩ = G at hG g1 g2 g3 g4
  have HFG : Hj.Fit G := by unfold Hj.Fit Nu.I; omega
  have hp0 := refPlMay_any _ HF
  have hp1 := refPlMay_any _ HFG
  have hn0 := plNew_two _ HF
  have hn1 := plNew_two _ HFG
  unfold agH at hG hp0 hp1 hn0 hn1
  have HG := Lib.hid hG
  clear hG w00 w01 w02 w03 g1 g2 g3 g4 HF HFG
  go_enter Try.func9, Try.ntmps9
  have HP0' := Lib.hid hp0
  have HP1' := Lib.hid hp1
  have HN0' := Lib.hid hn0
  have HN1' := Lib.hid hn1
  clear hp0 hp1 hn0 hn1
  go_upto_region 1 with fail
  generalize hW : w.alloc (.cells #[.int .i64 a1k0, .int .i64 a1w1, .int .i64 a1h2, .int .i64 a1m3] 42) = W1
  have HK1 : Hid (Hb W1 w.heap.size 42 ⟨a1k0, a1w1, a1h2, a1m3⟩) := by show Hb _ _ _ _; rw [← hW]; exact Hb.new w 42 ⟨a1k0, a1w1, a1h2, a1m3⟩
  have HB1 : Hid (Below w.heap.size w W1) := by show Below _ _ _; rw [← hW]; exact box1' _ _
  clear hW
  have hBt : Below W1.heap.size W1 W1 := .refl _ _
  obtain ⟨n0, n1, n2, n3⟩ := HK1.out.cells
  simp only at n0 n1 n2 n3
  go_cut [3] from 8 to 11 (fun s5 wx => ∃ g, s5 = .slice (some ⟨g, 0, none⟩) 2 2 ∧ Ha wx g ⟨a1k0, a1w1, a1h2, a1m3⟩ G ∧ Below W1.heap.size W1 wx)
  case first =>
    go_region_held3 (fun w' => w'.cell? ⟨w.heap.size, 0, none⟩ = some (.int .i64 a1k0) ∧ w'.cell? ⟨w.heap.size, 1, none⟩ = some (.int .i64 a1w1) ∧ w'.cell? ⟨w.heap.size, 2, none⟩ = some (.int .i64 a1h2) ∧ w'.cell? ⟨w.heap.size, 3, none⟩ = some (.int .i64 a1m3))
      (first | (with_reducible exact ⟨n0, n1, n2, n3⟩) | exact Hb.cells (Hb.later HK1.out (by repeat' (first | (with_reducible exact hBt) | (with_reducible refine Below.alloc ?_ ?_ _) | (with_reducible refine Below.drew ?_) | (with_reducible refine below_drewN ?_ _) | exact hBt.size | (have := hBt.size; first | omega | (simp; done) | (simp; omega))))))
      (first | (go_at_call 26; refine (HG.out _).mono ?_; rintro e w9 ⟨rfl, hb9⟩; replace hBt := bel_step (w := W1) (by repeat' (first | (with_reducible exact hBt) | (with_reducible refine Below.alloc ?_ ?_ _) | (with_reducible refine Below.drew ?_) | (with_reducible refine below_drewN ?_ _) | exact hBt.size | (have := hBt.size; first | omega | (simp; done) | (simp; omega)))) hb9))
    all_goals
      go_wp2_with fail
      go_meet
      case rel => exact ⟨_, rfl, World.alloc_heap_new _ _, (by repeat' (first | (with_reducible exact hBt) | (with_reducible refine Below.alloc ?_ ?_ _) | (with_reducible refine Below.drew ?_) | (with_reducible refine below_drewN ?_ _) | exact hBt.size | (have := hBt.size; first | omega | (simp; done) | (simp; omega))))⟩
  case rest =>
    obtain ⟨g, rfl, hHA, hB2⟩ := hcut
    have HA2 := Lib.hid hHA
    have HB2 := Lib.hid (HB1.out.trans (hB2.mono HB1.out.size))
    clear hHA hB2 hBt n0 n1 n2 n3
    go_wp2_with fail
    refine wp_loop_rounds 3 ?_
    rcases HN0'.out with ⟨m0, hn0⟩ | ⟨m0, hn0⟩ <;> rcases HN1'.out with ⟨m1, hn1⟩ | ⟨m1, hn1⟩
    · have hp0 := HP0'.out
      have hp1 := HP1'.out
      simp only [decide_eq_true m0] at hp0
      simp only [decide_eq_true m1] at hp1
      have HP0 := Lib.hid hp0
      have HP1 := Lib.hid hp1
      have HN0 := Lib.hid hn0
      have HN1 := Lib.hid hn1
      clear hp0 hp1 hn0 hn1 m0 m1
      rw [rounds_succ]
      obtain ⟨k0, k1, k2, k3, k4, k5, k6, k7⟩ := HA2.out.cells
      simp only at k0 k1 k2 k3 k4 k5 k6 k7
      go_wp2_with fail
      refine (HN0.out _).mono ?_
      rintro e w3 ⟨b0, rfl, hb⟩
      have HA3 := Lib.hid (HA2.out.later hb)
      have HB3 := Lib.hid (HB2.out.trans (hb.mono HB2.out.size))
      clear hb k0 k1 k2 k3 k4 k5 k6 k7
      obtain ⟨k0, k1, k2, k3, k4, k5, k6, k7⟩ := HA3.out.cells
      simp only at k0 k1 k2 k3 k4 k5 k6 k7
      go_wp2_with fail
      refine (HP0.out _).mono ?_
      rintro e w4 ⟨rfl, hb⟩
      have HA4 := Lib.hid (HA3.out.later hb)
      have HB4 := Lib.hid (HB3.out.trans (hb.mono HB3.out.size))
      clear hb k0 k1 k2 k3 k4 k5 k6 k7
      go_wp2_with fail
      rw [rounds_succ]
      obtain ⟨k0, k1, k2, k3, k4, k5, k6, k7⟩ := HA4.out.cells
      simp only at k0 k1 k2 k3 k4 k5 k6 k7
      go_wp2_with fail
      refine (HN1.out _).mono ?_
      rintro e w5 ⟨b1, rfl, hb⟩
      have HA5 := Lib.hid (HA4.out.later hb)
      have HB5 := Lib.hid (HB4.out.trans (hb.mono HB4.out.size))
      clear hb k0 k1 k2 k3 k4 k5 k6 k7
      obtain ⟨k0, k1, k2, k3, k4, k5, k6, k7⟩ := HA5.out.cells
      simp only at k0 k1 k2 k3 k4 k5 k6 k7
      go_wp2_with fail
      refine (HP1.out _).mono ?_
      rintro e w6 ⟨rfl, hb⟩
      have HA6 := Lib.hid (HA5.out.later hb)
      have HB6 := Lib.hid (HB5.out.trans (hb.mono HB5.out.size))
      clear hb k0 k1 k2 k3 k4 k5 k6 k7
      go_wp2_with fail
      rw [rounds_succ]
      go_wp2_with fail
      refine (lives8_any _).mono ?_
      rintro e w9 ⟨rfl, hb⟩
      have HB9 := Lib.hid (HB6.out.trans (hb.mono HB6.out.size))
      clear hb
      go_wp2
      go_ret
      exact ⟨rfl, HB9.out⟩
    · have hp0 := HP0'.out
      have hp1 := HP1'.out
      simp only [decide_eq_true m0] at hp0
      simp only [decide_eq_false m1] at hp1
      have HP0 := Lib.hid hp0
      have HP1 := Lib.hid hp1
      have HN0 := Lib.hid hn0
      have HN1 := Lib.hid hn1
      clear hp0 hp1 hn0 hn1 m0 m1
      rw [rounds_succ]
      obtain ⟨k0, k1, k2, k3, k4, k5, k6, k7⟩ := HA2.out.cells
      simp only at k0 k1 k2 k3 k4 k5 k6 k7
      go_wp2_with fail
      refine (HN0.out _).mono ?_
      rintro e w3 ⟨b0, rfl, hb⟩
      have HA3 := Lib.hid (HA2.out.later hb)
      have HB3 := Lib.hid (HB2.out.trans (hb.mono HB2.out.size))
      clear hb k0 k1 k2 k3 k4 k5 k6 k7
      obtain ⟨k0, k1, k2, k3, k4, k5, k6, k7⟩ := HA3.out.cells
      simp only at k0 k1 k2 k3 k4 k5 k6 k7
      go_wp2_with fail
      refine (HP0.out _).mono ?_
      rintro e w4 ⟨rfl, hb⟩
      have HA4 := Lib.hid (HA3.out.later hb)
      have HB4 := Lib.hid (HB3.out.trans (hb.mono HB3.out.size))
      clear hb k0 k1 k2 k3 k4 k5 k6 k7
      go_wp2_with fail
      rw [rounds_succ]
      obtain ⟨k0, k1, k2, k3, k4, k5, k6, k7⟩ := HA4.out.cells
      simp only at k0 k1 k2 k3 k4 k5 k6 k7
      go_wp2_with fail
      refine (HN1.out _).mono ?_
      rintro e w5 ⟨rfl, hb⟩
      have HA5 := Lib.hid (HA4.out.later hb)
      have HB5 := Lib.hid (HB4.out.trans (hb.mono HB4.out.size))
      clear hb k0 k1 k2 k3 k4 k5 k6 k7
      obtain ⟨k0, k1, k2, k3, k4, k5, k6, k7⟩ := HA5.out.cells
      simp only at k0 k1 k2 k3 k4 k5 k6 k7
      go_wp2_with fail
      refine (HP1.out _).mono ?_
      rintro e w6 ⟨rfl, hb⟩
      have HA6 := Lib.hid (HA5.out.later hb)
      have HB6 := Lib.hid (HB5.out.trans (hb.mono HB5.out.size))
      clear hb k0 k1 k2 k3 k4 k5 k6 k7
      go_wp2_with fail
      rw [rounds_succ]
      go_wp2_with fail
      refine (lives8_any _).mono ?_
      rintro e w9 ⟨rfl, hb⟩
      have HB9 := Lib.hid (HB6.out.trans (hb.mono HB6.out.size))
      clear hb
      go_wp2
      go_ret
      exact ⟨rfl, HB9.out⟩
    · have hp0 := HP0'.out
      have hp1 := HP1'.out
      simp only [decide_eq_false m0] at hp0
      simp only [decide_eq_true m1] at hp1
      have HP0 := Lib.hid hp0
      have HP1 := Lib.hid hp1
      have HN0 := Lib.hid hn0
      have HN1 := Lib.hid hn1
      clear hp0 hp1 hn0 hn1 m0 m1
      rw [rounds_succ]
      obtain ⟨k0, k1, k2, k3, k4, k5, k6, k7⟩ := HA2.out.cells
      simp only at k0 k1 k2 k3 k4 k5 k6 k7
      go_wp2_with fail
      refine (HN0.out _).mono ?_
      rintro e w3 ⟨rfl, hb⟩
      have HA3 := Lib.hid (HA2.out.later hb)
      have HB3 := Lib.hid (HB2.out.trans (hb.mono HB2.out.size))
      clear hb k0 k1 k2 k3 k4 k5 k6 k7
      obtain ⟨k0, k1, k2, k3, k4, k5, k6, k7⟩ := HA3.out.cells
      simp only at k0 k1 k2 k3 k4 k5 k6 k7
      go_wp2_with fail
      refine (HP0.out _).mono ?_
      rintro e w4 ⟨rfl, hb⟩
      have HA4 := Lib.hid (HA3.out.later hb)
      have HB4 := Lib.hid (HB3.out.trans (hb.mono HB3.out.size))
      clear hb k0 k1 k2 k3 k4 k5 k6 k7
      go_wp2_with fail
      rw [rounds_succ]
      obtain ⟨k0, k1, k2, k3, k4, k5, k6, k7⟩ := HA4.out.cells
      simp only at k0 k1 k2 k3 k4 k5 k6 k7
      go_wp2_with fail
      refine (HN1.out _).mono ?_
      rintro e w5 ⟨b1, rfl, hb⟩
      have HA5 := Lib.hid (HA4.out.later hb)
      have HB5 := Lib.hid (HB4.out.trans (hb.mono HB4.out.size))
      clear hb k0 k1 k2 k3 k4 k5 k6 k7
      obtain ⟨k0, k1, k2, k3, k4, k5, k6, k7⟩ := HA5.out.cells
      simp only at k0 k1 k2 k3 k4 k5 k6 k7
      go_wp2_with fail
      refine (HP1.out _).mono ?_
      rintro e w6 ⟨rfl, hb⟩
      have HA6 := Lib.hid (HA5.out.later hb)
      have HB6 := Lib.hid (HB5.out.trans (hb.mono HB5.out.size))
      clear hb k0 k1 k2 k3 k4 k5 k6 k7
      go_wp2_with fail
      rw [rounds_succ]
      go_wp2_with fail
      refine (lives8_any _).mono ?_
      rintro e w9 ⟨rfl, hb⟩
      have HB9 := Lib.hid (HB6.out.trans (hb.mono HB6.out.size))
      clear hb
      go_wp2
      go_ret
      exact ⟨rfl, HB9.out⟩
    · have hp0 := HP0'.out
      have hp1 := HP1'.out
      simp only [decide_eq_false m0] at hp0
      simp only [decide_eq_false m1] at hp1
      have HP0 := Lib.hid hp0
      have HP1 := Lib.hid hp1
      have HN0 := Lib.hid hn0
      have HN1 := Lib.hid hn1
      clear hp0 hp1 hn0 hn1 m0 m1
      rw [rounds_succ]
      obtain ⟨k0, k1, k2, k3, k4, k5, k6, k7⟩ := HA2.out.cells
      simp only at k0 k1 k2 k3 k4 k5 k6 k7
      go_wp2_with fail
      refine (HN0.out _).mono ?_
      rintro e w3 ⟨rfl, hb⟩
      have HA3 := Lib.hid (HA2.out.later hb)
      have HB3 := Lib.hid (HB2.out.trans (hb.mono HB2.out.size))
      clear hb k0 k1 k2 k3 k4 k5 k6 k7
      obtain ⟨k0, k1, k2, k3, k4, k5, k6, k7⟩ := HA3.out.cells
      simp only at k0 k1 k2 k3 k4 k5 k6 k7
      go_wp2_with fail
      refine (HP0.out _).mono ?_
      rintro e w4 ⟨rfl, hb⟩
      have HA4 := Lib.hid (HA3.out.later hb)
      have HB4 := Lib.hid (HB3.out.trans (hb.mono HB3.out.size))
      clear hb k0 k1 k2 k3 k4 k5 k6 k7
      go_wp2_with fail
      rw [rounds_succ]
      obtain ⟨k0, k1, k2, k3, k4, k5, k6, k7⟩ := HA4.out.cells
      simp only at k0 k1 k2 k3 k4 k5 k6 k7
      go_wp2_with fail
      refine (HN1.out _).mono ?_
      rintro e w5 ⟨rfl, hb⟩
      have HA5 := Lib.hid (HA4.out.later hb)
      have HB5 := Lib.hid (HB4.out.trans (hb.mono HB4.out.size))
      clear hb k0 k1 k2 k3 k4 k5 k6 k7
      obtain ⟨k0, k1, k2, k3, k4, k5, k6, k7⟩ := HA5.out.cells
      simp only at k0 k1 k2 k3 k4 k5 k6 k7
      go_wp2_with fail
      refine (HP1.out _).mono ?_
      rintro e w6 ⟨rfl, hb⟩
      have HA6 := Lib.hid (HA5.out.later hb)
      have HB6 := Lib.hid (HB5.out.trans (hb.mono HB5.out.size))
      clear hb k0 k1 k2 k3 k4 k5 k6 k7
      go_wp2_with fail
      rw [rounds_succ]
      go_wp2_with fail
      refine (lives8_any _).mono ?_
      rintro e w9 ⟨rfl, hb⟩
      have HB9 := Lib.hid (HB6.out.trans (hb.mono HB6.out.size))
      clear hb
      go_wp2
      go_ret
      exact ⟨rfl, HB9.out⟩
end Go.Proofs.Ytldhhhmihfcalaa

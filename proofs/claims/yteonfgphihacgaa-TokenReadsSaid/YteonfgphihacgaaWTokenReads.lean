/- TokenReads: what a reader tells of each byte, and the number then, is the document's: the walk of the law. No condition. -/
import Derived.Test.YteonfgphihacgaaTokG
import Derived.Test.YteonfgphihacgaaTokH
namespace Go.Proofs.Yteonfgphihacgaa
open Go.RowKit
set_option linter.unusedVariables false

theorem refValue_any (t : Tk.S) (m : Int) (w : World) :
    Calls Try.prog 22 #[.agg #[.int .i64 (t.k : Nat), .int .i64 t.n, .int .i64 m, .int .i64 t.e]] w fun e w' => e = .returned (.tuple #[.int .i64 (Tk.val t).1, .int .i64 (Tk.val t).2]) ∧ Below w.heap.size w w' := by
  by_cases h : t.e = 0
  · have := refValue_ok t.k t.n m w
    unfold Tk.val; rw [h, if_pos rfl]; exact this
  · have := refValue_no t.k t.n m t.e h w
    unfold Tk.val; rw [if_neg h]; exact this
/-- whether it took a digit is what the document's reader says -/
theorem Tk.put_bg {m : Int} {s : S} (h : Good m s) (c : Int) : (put m s c).bg = (s.bg || (decide (2 ≤ (put m s c).k) && decide ((put m s c).k ≤ 4))) := by
  obtain ⟨h1, h2, h3, h4, h5, h6, h7, h8⟩ := h
  obtain ⟨k, n, e, bg⟩ := s
  simp only at h1 h2 h3 h4 h5 h6 h7 h8
  have hk : k = 0 ∨ k = 1 ∨ k = 2 ∨ k = 3 ∨ k = 4 ∨ k = 5 := by omega
  rcases hk with rfl | rfl | rfl | rfl | rfl | rfl
  · obtain ⟨_, rfl⟩ := h7 (by omega)
    unfold put; simp only
    repeat' split
    all_goals first | rfl | omega | simp_all
  · obtain ⟨_, rfl⟩ := h7 (by omega)
    unfold put; simp only
    repeat' split
    all_goals first | rfl | omega | simp_all
  · have := h8 (by omega) (by omega); subst this
    unfold put; simp only
    repeat' split
    all_goals first | rfl | omega | simp_all
  · have := h8 (by omega) (by omega); subst this
    unfold put; simp only
    repeat' split
    all_goals first | rfl | omega | simp_all
  · have := h8 (by omega) (by omega); subst this
    rfl
  · unfold put; simp
theorem Nb.grown {w w' : World} {b b' : Nat} {k n m e : Int} (h : Nb w b k n m e) (hg : w.grownBy w' (some b')) (hne : b ≠ b') : Nb w' b k n m e := h.kept hg (by intro e; injection e with e; exact hne e)
theorem RdS.drew {w : World} {b : Nat} {m : Int} {t : Tk.S} (h : RdS w b m t) : RdS w.drew b m t := h
theorem RdS.put4 {w : World} {b b' : Nat} {m : Int} {t : Tk.S} (h : RdS w b m t) (hne : b ≠ b') (x0 x1 x2 x3 : Value) : RdS ((((w.setCell ⟨b', 0, none⟩ x0).setCell ⟨b', 1, none⟩ x1).setCell ⟨b', 2, none⟩ x2).setCell ⟨b', 3, none⟩ x3) b m t := by
  have hn : some b ≠ some b' := by intro e; injection e with e; exact hne e
  exact (((h.kept (grown_set _ _ _ _) hn).kept (grown_set _ _ _ _) hn).kept (grown_set _ _ _ _) hn).kept (grown_set _ _ _ _) hn
set_option maxRecDepth 100000 in
set_option maxHeartbeats 8000000 in
theorem tokenReads_walk (a0 : ByteArray) (a1 : Int) (w : World) (w0 : a0.size ≤ maxLen) (w1 : (Lit.int .i64 a1).wf = true) :
    Calls Try.prog 3 #[.string a0, .int .i64 a1] w fun e w' => e = .returned (.bool true) ∧ Below w.heap.size w w' := by
  have h1 := Lib.hid (wfI w1)
  have H0 := Lib.hid w0
  obtain ⟨m0, m1⟩ := Nu.limit_lt a1
  obtain ⟨m, hm⟩ : ∃ m, Nu.limit a1 = m := ⟨_, rfl⟩
  rw [hm] at m0 m1
  have HM := Lib.hid hm
  have M0 := Lib.hid m0
  have M1 := Lib.hid m1
  clear w0 w1 hm m0 m1
  go_enter Try.func3, Try.ntmps3
  go_wp2_with fail
  refine (few_any a0 40 (by omega) H0.out _).mono ?_
  rintro e w1 ⟨s, rfl, hs, rfl⟩
  go_wp2_with fail
  refine (limit_any a1 h1.out _).mono ?_
  rw [HM.out]
  rintro e w1 ⟨rfl, rfl⟩
  go_wp2_with fail
  refine (tokNew_s m M0.out _).mono ?_
  rintro e w1 ⟨rfl, hR, hB⟩
  have HR := Lib.hid hR
  have HB1 := Lib.hid hB
  clear hR hB
  obtain ⟨b, hb⟩ : ∃ b, w.heap.size = b := ⟨_, rfl⟩
  have HBB := Lib.hid hb
  rw [hb] at HR
  go_wp2_with fail
  refine (refNew_any m _).mono ?_
  unfold agS
  rintro e w2 ⟨rfl, hB⟩
  have HR2 := Lib.hid (HR.out.later hB)
  have HB2 := Lib.hid (HB1.out.trans (hB.mono HB1.out.size))
  have hlt2 : b < w2.heap.size := HR2.out.lt
  have HR3 : Hid (RdS (w2.alloc (.cells #[.int .i64 0, .int .i64 0, .int .i64 m, .int .i64 9] 28)) b m Tk.new) := HR2.out.kept (World.grownBy_alloc _ _ none) (by simp)
  have HB3 : Hid (Below w.heap.size w (w2.alloc (.cells #[.int .i64 0, .int .i64 0, .int .i64 m, .int .i64 9] 28))) := HB2.out.alloc HB2.out.size _
  have HNB3 := Lib.hid (Nb.new w2 0 0 m 9)
  obtain ⟨rb, hrb'⟩ : ∃ rb, w2.heap.size = rb := ⟨_, rfl⟩
  have hz2 := HB2.out.size
  rw [hrb'] at hlt2 HNB3 hz2
  have hrb : w.heap.size ≤ rb := hz2
  have hbw : w.heap.size ≤ b := by rw [hb]; exact Nat.le_refl _
  clear hB hz2 HR2 HB1 HR
  go_wp2_with fail
  go_loopw [8, 9] (fun u8 u9 wr => ∃ (i : Nat) (t : Tk.S), i ≤ s.size ∧ u8 = .bool t.bg ∧ u9 = .int .i64 i ∧ Tk.Good m t ∧ RdS wr b m t ∧ Nb wr rb t.k t.n m t.e ∧ Below w.heap.size w wr) (fun _ u9 _ => s.size - (intOf u9).toNat)
  case atStart => exact ⟨0, Tk.new, Nat.zero_le _, rfl, rfl, Tk.good_new M0.out, HR3.out, HNB3.out, HB3.out⟩
  case round =>
    obtain ⟨i, t, hi1, rfl, rfl, hG, hR, hN, hB⟩ := hrel
    by_cases hlt : i < s.size
    · have c0 : (0 : Int) ≤ (s[i].toNat : Int) := by omega
      have c1 : (s[i].toNat : Int) ≤ 255 := by have := s[i].toNat_lt; omega
      obtain ⟨t', ht'⟩ : ∃ t', Tk.put m t (s[i].toNat : Int) = t' := ⟨_, rfl⟩
      have HP := put_both hG M1.out (s[i].toNat : Int) c0 c1
      have hG' := Tk.good_put hG (s[i].toNat : Int)
      have hbg := Tk.put_bg hG (s[i].toNat : Int)
      rw [ht'] at HP hG' hbg
      obtain ⟨HP1, HP2⟩ := HP
      have HV1 := fun W hr => value_s (w := W) (b := b) (m := m) (s := t') hr
      have HV2 := refValue_any t' m
      obtain ⟨v, hv⟩ : ∃ v, Tk.val t' = v := ⟨_, rfl⟩
      obtain ⟨v1, v2⟩ := v
      rw [hv] at HV1 HV2
      obtain ⟨k, hk⟩ : ∃ k : Nat, t.k = k := ⟨_, rfl⟩
      obtain ⟨n, hn⟩ : ∃ n : Int, t.n = n := ⟨_, rfl⟩
      obtain ⟨er, her⟩ : ∃ er : Int, t.e = er := ⟨_, rfl⟩
      obtain ⟨k', hk'⟩ : ∃ k' : Nat, t'.k = k' := ⟨_, rfl⟩
      obtain ⟨n', hn'⟩ : ∃ n' : Int, t'.n = n' := ⟨_, rfl⟩
      obtain ⟨e', he'⟩ : ∃ e' : Int, t'.e = e' := ⟨_, rfl⟩
      obtain ⟨q, hq⟩ : ∃ q : Int, Tk.st t' = q := ⟨_, rfl⟩
      obtain ⟨g, hg⟩ : ∃ g : Bool, t.bg = g := ⟨_, rfl⟩
      obtain ⟨g', hg'⟩ : ∃ g' : Bool, t'.bg = g' := ⟨_, rfl⟩
      rw [hk, hn, her] at HP2 hN
      rw [hk', hn', he', hq] at HP2
      rw [hk', hn', he'] at HV2
      rw [hg, hg', hk'] at hbg
      rw [hg]
      have HPC : Hid (∀ W, Calls Try.prog 16 #[.agg #[.int .i64 k, .int .i64 n, .int .i64 m, .int .i64 er], .int .u8 (s[i].toNat : Int)] W fun e w' => e = .returned (.tuple #[.agg #[.int .i64 k', .int .i64 n', .int .i64 m, .int .i64 e'], .int .i64 q]) ∧ Below W.heap.size W w') := fun W => (HP2 W).mono fun e w' hh => hh
      have HPD : Hid (∀ W, RdS W b m t → Calls Try.prog 17 #[.pointer (some ⟨b, 0, none⟩), .int .u8 (s[i].toNat : Int)] W fun e w' => e = .returned (.int .i64 q) ∧ RdS w' b m t' ∧ W.grownBy w' (some b)) := fun W hr => (HP1 W b hr).mono fun e w' hh => ⟨by rw [hh.1, hq], hh.2⟩
      have HBG : Hid (∀ W, RdS W b m t' → Calls Try.prog 18 #[.pointer (some ⟨b, 0, none⟩)] W fun e w' => e = .returned (.bool g') ∧ W = w') := fun W hr => by have := begun_s hr; rw [hg'] at this; exact this
      have HBK := Lib.hid (blank_any (s[i].toNat : Int) c0 c1)
      have HBL := Lib.hid (refBlank_any (s[i].toNat : Int) c0 c1)
      generalize Tk.blank (s[i].toNat : Int) = bl at HBK HBL
      have HV1' := Lib.hid HV1
      have HV2' := Lib.hid HV2
      have HRD := Lib.hid hR
      have HNB := Lib.hid hN
      have HB := Lib.hid hB
      have HG' := Lib.hid hG'
      have HK' : Hid (t'.k = k' ∧ t'.n = n' ∧ t'.e = e' ∧ t'.bg = g') := ⟨hk', hn', he', hg'⟩
      obtain ⟨n0, n1, n2, n3⟩ := hN.cells
      obtain ⟨f0, f1, f2, f3⟩ := hN.fr
      have hltr : rb < wr.heap.size := hN.lt
      have hltb : b < wr.heap.size := hR.lt
      have hBt : Below wr.heap.size wr wr := .refl _ _
      clear HP1 HP2 HV1 HV2 hR hN hB hG hG' hv hk hn her hk' hn' he' hq hg hg' ht' hb hrb'
      go_wp2_with fail
      go_cut [10, 11] (fun s10 s11 wx => ∃ na, s10 = .pointer (some ⟨na, 0, none⟩) ∧ s11 = .int .i64 q ∧ Nb wx na k' n' m e' ∧ na ≠ rb ∧ Below wr.heap.size wr wx)
      case first =>
        go_region_held3 (fun w' => w'.cell? ⟨rb, 0, none⟩ = some (.int .i64 k) ∧ w'.cell? ⟨rb, 1, none⟩ = some (.int .i64 n) ∧ w'.cell? ⟨rb, 2, none⟩ = some (.int .i64 m) ∧ w'.cell? ⟨rb, 3, none⟩ = some (.int .i64 er))
          (first | exact ⟨n0, n1, n2, n3⟩ | exact ⟨cell_later (by repeat' (first | (with_reducible exact hBt) | (with_reducible refine Below.alloc ?_ ?_ _) | (with_reducible refine Below.drew ?_) | (with_reducible refine below_drewN ?_ _) | (with_reducible refine Below.setCell ?_ ?_ _) | exact hBt.size | (have := hBt.size; first | omega | (simp; done) | (simp; omega)))) n0, cell_later (by repeat' (first | (with_reducible exact hBt) | (with_reducible refine Below.alloc ?_ ?_ _) | (with_reducible refine Below.drew ?_) | (with_reducible refine below_drewN ?_ _) | (with_reducible refine Below.setCell ?_ ?_ _) | exact hBt.size | (have := hBt.size; first | omega | (simp; done) | (simp; omega)))) n1, cell_later (by repeat' (first | (with_reducible exact hBt) | (with_reducible refine Below.alloc ?_ ?_ _) | (with_reducible refine Below.drew ?_) | (with_reducible refine below_drewN ?_ _) | (with_reducible refine Below.setCell ?_ ?_ _) | exact hBt.size | (have := hBt.size; first | omega | (simp; done) | (simp; omega)))) n2, cell_later (by repeat' (first | (with_reducible exact hBt) | (with_reducible refine Below.alloc ?_ ?_ _) | (with_reducible refine Below.drew ?_) | (with_reducible refine below_drewN ?_ _) | (with_reducible refine Below.setCell ?_ ?_ _) | exact hBt.size | (have := hBt.size; first | omega | (simp; done) | (simp; omega)))) n3⟩)
          (first
            | (go_at_call 16; refine (HPC.out _).mono ?_; rintro e w9 ⟨rfl, hb9⟩; replace hBt := bel_step (w := wr) (by repeat' (first | (with_reducible exact hBt) | (with_reducible refine Below.alloc ?_ ?_ _) | (with_reducible refine Below.drew ?_) | (with_reducible refine below_drewN ?_ _) | (with_reducible refine Below.setCell ?_ ?_ _) | exact hBt.size | (have := hBt.size; first | omega | (simp; done) | (simp; omega)))) hb9; have hsz9 := hBt.size; (try (have hnl9 := hNB.lt)); (try replace hNB := hNB.later hb9); (try ((first | have hNB := Nb.later (Nb.new _ _ _ _ _) hb9 | have hNB := Nb.later (Nb.drew (Nb.new _ _ _ _ _)) hb9); (try simp only [World.size_drew, size_drewN'] at hNB))); (try (obtain ⟨z0, z1, z2, z3⟩ := hNB.cells)); (try (obtain ⟨y0, y1, y2, y3⟩ := hNB.fr))))
        all_goals
          go_wp2_with fail
          go_meet
          case rel =>
            first
              | exact ⟨_, rfl, rfl, hNB.put _ _ _ _, (Nat.ne_of_gt hltr), (by repeat' (first | (with_reducible exact hBt) | (with_reducible refine Below.alloc ?_ ?_ _) | (with_reducible refine Below.drew ?_) | (with_reducible refine below_drewN ?_ _) | (with_reducible refine Below.setCell ?_ ?_ _) | exact hBt.size | (have := hBt.size; first | omega | (simp; done) | (simp; omega))))⟩
              | exact ⟨_, rfl, rfl, Nb.new _ _ _ _ _, (Nat.ne_of_gt (Nat.lt_of_lt_of_le hltr hBt.size)), (by repeat' (first | (with_reducible exact hBt) | (with_reducible refine Below.alloc ?_ ?_ _) | (with_reducible refine Below.drew ?_) | (with_reducible refine below_drewN ?_ _) | (with_reducible refine Below.setCell ?_ ?_ _) | exact hBt.size | (have := hBt.size; first | omega | (simp; done) | (simp; omega))))⟩
      case rest =>
        obtain ⟨na, rfl, rfl, hNc, hne, hBx⟩ := hcut
        have hN1 := HNB.out.later hBx
        have HRc := Lib.hid (HRD.out.later hBx)
        have hBw : Below w.heap.size w wc := HB.out.trans (hBx.mono HB.out.size)
        obtain ⟨p0, p1, p2, p3⟩ := hNc.cells
        obtain ⟨o0, o1, o2, o3⟩ := hN1.cells
        obtain ⟨g0, g1, g2, g3⟩ := hN1.fr
        have hbr : b ≠ rb := Nat.ne_of_lt hlt2
        have HR4 := Lib.hid (HRc.out.put4 hbr (.int .i64 k') (.int .i64 n') (.int .i64 m) (.int .i64 e'))
        have HN4 := Lib.hid (hN1.put k' n' m e')
        have HB4 : Hid (Below w.heap.size w ((((wc.setCell ⟨rb, 0, none⟩ (.int .i64 k')).setCell ⟨rb, 1, none⟩ (.int .i64 n')).setCell ⟨rb, 2, none⟩ (.int .i64 m)).setCell ⟨rb, 3, none⟩ (.int .i64 e'))) := by show Below _ _ _; exact (by repeat' (first | (with_reducible exact hBw) | (with_reducible refine Below.setCell ?_ ?_ _) | (with_reducible refine below_drewN' ?_ _) | exact hrb))
        clear hBx hBt hNc n0 n1 n2 n3 f0 f1 f2 f3 hBw hN1
        go_upto_region 13 with (fail)
        generalize ((((wc.setCell ⟨rb, 0, none⟩ (.int .i64 k')).setCell ⟨rb, 1, none⟩ (.int .i64 n')).setCell ⟨rb, 2, none⟩ (.int .i64 m)).setCell ⟨rb, 3, none⟩ (.int .i64 e')) = w4 at HR4 HN4 HB4 ⊢
        clear p0 p1 p2 p3 o0 o1 o2 o3 g0 g1 g2 g3
        obtain ⟨n0, n1, n2, n3⟩ := HN4.out.cells
        have hkI : decide ((2 : Int) ≤ (k' : Int)) = decide (2 ≤ k') := by rw [decide_eq_decide]; omega
        have hkJ : decide ((k' : Int) ≤ 4) = decide (k' ≤ 4) := by rw [decide_eq_decide]; omega
        go_cut [8] (fun s8 wx => s8 = .bool g' ∧ wx = w4)
        case first =>
          cases g with
          | true =>
            obtain rfl : g' = true := by rw [hbg]; rfl
            clear hbg
            go_wp2_with fail
            go_meet
            case rel => exact ⟨rfl, rfl⟩
          | false =>
            by_cases q2 : 2 ≤ k'
            · have q2I : decide ((2 : Int) ≤ (k' : Int)) = true := decide_eq_true (by omega)
              have q2J : (2 : Int) ≤ (k' : Int) := by omega
              by_cases q4 : k' ≤ 4
              · obtain rfl : g' = true := by rw [hbg, decide_eq_true q2, decide_eq_true q4]; rfl
                have q4I : decide ((k' : Int) ≤ 4) = true := decide_eq_true (by omega)
                have q4J : (k' : Int) ≤ 4 := by omega
                clear hbg hkI hkJ q2 q4
                go_wp2_with fail
                go_meet
                case rel => exact ⟨rfl, rfl⟩
              · obtain rfl : g' = false := by rw [hbg, decide_eq_false q4]; simp
                have q4I : decide ((k' : Int) ≤ 4) = false := decide_eq_false (by omega)
                have q4J : ¬ (k' : Int) ≤ 4 := by omega
                clear hbg hkI hkJ q2 q4
                go_wp2_with fail
                go_meet
                case rel => exact ⟨rfl, rfl⟩
            · obtain rfl : g' = false := by rw [hbg, decide_eq_false q2]; simp
              have q2I : decide ((2 : Int) ≤ (k' : Int)) = false := decide_eq_false (by omega)
              have q2J : ¬ (2 : Int) ≤ (k' : Int) := by omega
              clear hbg hkI hkJ q2
              go_wp2_with fail
              go_meet
              case rel => exact ⟨rfl, rfl⟩
        case rest =>
          obtain ⟨rfl, rfl⟩ := hcut
          clear hbg hkI hkJ
          have hq0 : (q != q) = false := by simp
          have hg0 : (g' != g') = false := by simp
          have hbl0 : (bl != bl) = false := by simp
          have hv10 : (v1 != v1) = false := by simp
          have hv20 : (v2 != v2) = false := by simp
          have HR5 := Lib.hid HR4.out
          go_wp2_with fail
          go_region_held3 (fun _ => True) (trivial)
            (first
              | (go_at_call 17; refine (HPD.out _ HR4.out.drew).mono ?_; rintro e w9 ⟨rfl, hr9, hg9⟩; have HR9 := Lib.hid hr9; have HG9 := Lib.hid hg9; clear hr9 hg9)
              | (go_at_call 18; refine (HBG.out _ HR9.out).mono ?_; rintro e w10 ⟨rfl, rfl⟩)
              | (go_at_call 19; refine (HBK.out _).mono ?_; rintro e w10 ⟨rfl, rfl⟩)
              | (go_at_call 20; refine (HBL.out _).mono ?_; rintro e w10 ⟨rfl, rfl⟩))
          all_goals
            have HN9 := Lib.hid (Nb.grown (w := wc.drew) HN4.out HG9.out (Ne.symm hbr))
            have HB9 := Lib.hid (grown_bel (w := wc.drew) (HB4.out.trans ⟨rfl, rfl, rfl, Nat.le_refl _, fun _ _ => rfl⟩) HG9.out HB4.out.size hbw)
            clear n0 n1 n2 n3 hq0 hg0 hbl0
            obtain ⟨n0, n1, n2, n3⟩ := HN9.out.cells
            go_wp2_with fail
            refine (HV1'.out _ HR9.out).mono ?_
            rintro e w10 ⟨rfl, hg10⟩
            have HN10 := Lib.hid (HN9.out.kept hg10 (by simp))
            have HR10 := Lib.hid (HR9.out.kept hg10 (by simp))
            have HB10 := Lib.hid (HB9.out.grown hg10 HB9.out.size (by intro k e; cases e))
            clear n0 n1 n2 n3 hg10
            obtain ⟨n0, n1, n2, n3⟩ := HN10.out.cells
            go_wp2_with fail
            refine (HV2'.out _).mono ?_
            rintro e w11 ⟨rfl, hb11⟩
            have HN11 := Lib.hid (HN10.out.later hb11)
            have HR11 := Lib.hid (HR10.out.later hb11)
            have HB11 := Lib.hid (HB10.out.trans (hb11.mono HB10.out.size))
            clear n0 n1 n2 n3 hb11
            go_wp2
            go_roundw
            case rel => exact ⟨i + 1, t', by omega, by rw [HK'.out.2.2.2], by go_num, HG'.out, HR11.out, by have h := HK'.out; rw [h.1, h.2.1, h.2.2.1]; exact HN11.out, HB11.out⟩
            case measure => simp [intOf]; omega
    · have HV := value_s hR
      have HW := refValue_any t m
      obtain ⟨v, hv⟩ : ∃ v, Tk.val t = v := ⟨_, rfl⟩
      obtain ⟨v1, v2⟩ := v
      rw [hv] at HV HW
      obtain ⟨k, hk⟩ : ∃ k : Nat, t.k = k := ⟨_, rfl⟩
      obtain ⟨n, hn⟩ : ∃ n : Int, t.n = n := ⟨_, rfl⟩
      obtain ⟨er, her⟩ : ∃ er : Int, t.e = er := ⟨_, rfl⟩
      rw [hk, hn, her] at HW hN
      have HN := Lib.hid hN
      have HB := Lib.hid hB
      have HV' := Lib.hid HV
      have HW' := Lib.hid HW
      clear hN hB hR HV HW hk hn her hv hb hrb' hbw
      go_wp2_with fail
      refine HV'.out.mono ?_
      rintro e w3 ⟨rfl, hg⟩
      have HN3 := Lib.hid (HN.out.kept hg (by simp))
      have HBx := Lib.hid (HB.out.grown hg HB.out.size (by intro k e; cases e))
      obtain ⟨n0, n1, n2, n3⟩ := HN3.out.cells
      clear hg
      go_wp2_with fail
      refine (HW'.out _).mono ?_
      rintro e w4 ⟨rfl, hb4⟩
      have HBy := Lib.hid (HBx.out.trans (hb4.mono HBx.out.size))
      clear hb4 n0 n1 n2 n3
      go_wp2_with fail
      refine (lives5_any _).mono ?_
      rintro e w5 ⟨rfl, hb5⟩
      have HBz := Lib.hid (HBy.out.trans (hb5.mono HBy.out.size))
      clear hb5
      go_wp2
      go_ret
      exact ⟨rfl, HBz.out⟩
end Go.Proofs.Yteonfgphihacgaa

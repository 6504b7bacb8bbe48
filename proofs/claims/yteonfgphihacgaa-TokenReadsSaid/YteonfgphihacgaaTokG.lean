/- All numbers of a text by the document, over any memory. Condition: the greatest number fits, the text is short. -/
import Derived.Test.YteonfgphihacgaaTokF
import Derived.Deep.RegionHeld3
import Derived.Deep.DeepCutAuto
namespace Go.Proofs.Yteonfgphihacgaa
open Go.RowKit
set_option linter.unusedVariables false

/-- a reader by the document in a block of four cells -/
def Nb (w : World) (b : Nat) (k n m e : Int) : Prop := w.heap[b]? = some (.cells #[.int .i64 k, .int .i64 n, .int .i64 m, .int .i64 e] 28 (0, 0))
section
variable {w w' : World} {b : Nat} {k n m e : Int}
theorem Nb.lt (h : Nb w b k n m e) : b < w.heap.size := (Array.getElem?_eq_some_iff.1 h).1
theorem Nb.later (h : Nb w b k n m e) (hb : Below w.heap.size w w') : Nb w' b k n m e := (hb.block b h.lt).trans h
theorem Nb.kept {row : Option Nat} (h : Nb w b k n m e) (hg : w.grownBy w' row) (hne : some b ≠ row) : Nb w' b k n m e := (hg.block b h.lt hne).trans h
theorem Nb.cells (h : Nb w b k n m e) : w.cell? ⟨b, 0, none⟩ = some (.int .i64 k) ∧ w.cell? ⟨b, 1, none⟩ = some (.int .i64 n) ∧ w.cell? ⟨b, 2, none⟩ = some (.int .i64 m) ∧ w.cell? ⟨b, 3, none⟩ = some (.int .i64 e) := by
  have h' : w.heap[b]? = _ := h
  refine ⟨?_, ?_, ?_, ?_⟩ <;> simp [World.cell?, h']
theorem Nb.fr (h : Nb w b k n m e) : w.frozen? ⟨b, 0, none⟩ = false ∧ w.frozen? ⟨b, 1, none⟩ = false ∧ w.frozen? ⟨b, 2, none⟩ = false ∧ w.frozen? ⟨b, 3, none⟩ = false := by
  have h' : w.heap[b]? = _ := h
  refine ⟨?_, ?_, ?_, ?_⟩ <;> simp [World.frozen?, h']
theorem Nb.new (w : World) (k n m e : Int) : Nb (w.alloc (.cells #[.int .i64 k, .int .i64 n, .int .i64 m, .int .i64 e] 28)) w.heap.size k n m e := World.alloc_heap_new w _
theorem Nb.alloc (h : Nb w b k n m e) (o : Obj) : Nb (w.alloc o) b k n m e := h.kept (World.grownBy_alloc w o none) (by simp)
theorem Nb.drew (h : Nb w b k n m e) : Nb w.drew b k n m e := h
theorem Nb.put (h : Nb w b k n m e) (k' n' m' e' : Int) : Nb ((((w.setCell ⟨b, 0, none⟩ (.int .i64 k')).setCell ⟨b, 1, none⟩ (.int .i64 n')).setCell ⟨b, 2, none⟩ (.int .i64 m')).setCell ⟨b, 3, none⟩ (.int .i64 e')) b k' n' m' e' := by
  have h' : w.heap[b]? = _ := h
  have h1 := Go.heap_setCell_same w b 0 _ _ (.int .i64 k') h'
  have h2 := Go.heap_setCell_same _ b 1 _ _ (.int .i64 n') h1
  have h3 := Go.heap_setCell_same _ b 2 _ _ (.int .i64 m') h2
  have h4 := Go.heap_setCell_same _ b 3 _ _ (.int .i64 e') h3
  simpa [Nb] using h4
theorem Nb.set (h : Nb w b k n m e) (a : Addr) (y : Value) (hne : b ≠ a.block) : Nb (w.setCell a y) b k n m e := (Below.heap_setCell w a y b hne).trans h
theorem Nb.not_row (h : Nb w b k n m e) {t : TypeId} (hte : 28 ≠ t) {base size l : Nat} {v : Value} {xs : List Value} (hr : w.ownsRow base t size v l xs) : some b ≠ v.ownBlock := by
  have h1' : w.heap[b]? = _ := h
  rcases hr.2 with ⟨hv, _⟩ | ⟨j, cap, cur, hv, _, hj, _⟩
  · rw [hv]; simp [Value.ownBlock]
  · rw [hv]; intro e2
    have e2 : b = j := by simpa [Value.ownBlock] using e2
    subst e2
    rw [h1'] at hj
    injection hj with hj
    injection hj with _ ht _
    exact hte ht
end
theorem row_put4 {w : World} {b base size l : Nat} {t : TypeId} {v : Value} {xs : List Value} (hr : w.ownsRow base t size v l xs) (hne : some b ≠ v.ownBlock) (x0 x1 x2 x3 : Value) :
    World.ownsRow ((((w.setCell ⟨b, 0, none⟩ x0).setCell ⟨b, 1, none⟩ x1).setCell ⟨b, 2, none⟩ x2).setCell ⟨b, 3, none⟩ x3) base t size v l xs :=
  row_keep (row_keep (row_keep (row_keep hr (grown_set _ _ _ _) hne) (grown_set _ _ _ _) hne) (grown_set _ _ _ _) hne) (grown_set _ _ _ _) hne
theorem below_drewN' {B : Nat} {a w : World} (h : Below B a w) (n : Nat) : Below B a (w.drewN n) := h.trans ⟨rfl, rfl, rfl, Nat.le_refl _, fun _ _ => rfl⟩
set_option maxRecDepth 100000 in
set_option maxHeartbeats 8000000 in
theorem refAll_any (s : ByteArray) (m : Int) (m0 : 0 ≤ m) (m1 : m ≤ 4611686018427387903) (hs : s.size ≤ 1000) (w : World) :
    Calls Try.prog 25 #[.string s, .int .i64 m] w (AllR s m w) := by
  obtain ⟨i0, hi, hz0, hz1, hz2⟩ := info_parts Try.info_i
  have HM := Lib.hid m1
  clear m1
  go_enter Try.func25, Try.ntmps25
  go_wp2_with (go_at_call 15; refine (refNew_any m _).mono ?_; unfold agS; rintro e w1 ⟨rfl, hB1⟩)
  have hB1z : w.heap.size ≤ w1.heap.size := hB1.size
  go_loopw [7, 8, 10] (fun u7 u8 u10 wr => ∃ (i : Nat) (t : Tk.S) (u : Int) (acc : List Int), i ≤ s.size ∧ wr.ownsRow w.heap.size 3 1 u7 acc.length (acc.map (Value.int .i64)) ∧ u8 = .int .i64 u ∧ u10 = .int .i64 i ∧ Tk.Good m t ∧ Nb wr w1.heap.size t.k t.n m t.e ∧ t.k ≤ 3 ∧ Below w.heap.size w wr ∧ acc.length ≤ i ∧ Tk.allV (bytesOf s) m = Tk.allF m t i u acc ((bytesOf s).drop i)) (fun _ _ u10 _ => s.size - (intOf u10).toNat)
  case atStart => exact ⟨0, Tk.new, 0, [], Nat.zero_le _, World.ownsRow_nil _ _ _ _, rfl, rfl, Tk.good_new m0, Nb.new _ _ _ _ _, by decide, hB1.alloc hB1.size _, Nat.le_refl _, rfl⟩
  case round =>
    obtain ⟨i, t, u, acc, hi1, hrow, rfl, rfl, hG, hNb, htk, hB, hacc, hV⟩ := hrel
    by_cases hlt : i < s.size
    · rw [bytesOf_drop s i hlt] at hV
      have c0 : (0 : Int) ≤ (s[i].toNat : Int) := by omega
      have c1 : (s[i].toNat : Int) ≤ 255 := by have := s[i].toNat_lt; omega
      obtain ⟨t', ht'⟩ : ∃ t', Tk.put m t (s[i].toNat : Int) = t' := ⟨_, rfl⟩
      have HP := (put_both hG HM.out (s[i].toNat : Int) c0 c1).2
      rw [ht'] at HP
      have hG' := Tk.good_put hG (s[i].toNat : Int)
      rw [ht'] at hG'
      have HB := Lib.hid hB
      have HROW := Lib.hid hrow
      have HNB := Lib.hid hNb
      have hlt1 : w1.heap.size < wr.heap.size := hNb.lt
      have HNR := Lib.hid (hNb.not_row (by decide) hrow)
      have hk5 : t'.k ≤ 5 := hG'.1
      have HV : Hid (Tk.allV (bytesOf s) m = Tk.allF m t i u acc ((s[i].toNat : Int) :: (bytesOf s).drop (i + 1))) := hV
      obtain ⟨n0, n1, n2, n3⟩ := hNb.cells
      obtain ⟨f0, f1, f2, f3⟩ := hNb.fr
      clear hV hB hrow hNb hB1
      have hwz := HB.out.size
      have HWZ := Lib.hid hB1z
      have HT := Lib.hid ht'
      have hBt : Below wr.heap.size wr wr := .refl _ _
      obtain ⟨k, hk⟩ : ∃ k : Nat, t.k = k := ⟨_, rfl⟩
      obtain ⟨n, hn⟩ : ∃ n : Int, t.n = n := ⟨_, rfl⟩
      obtain ⟨er, her⟩ : ∃ er : Int, t.e = er := ⟨_, rfl⟩
      rw [hk] at n0
      rw [hn] at n1
      rw [her] at n3
      rw [hk, hn, her] at HP
      obtain ⟨k', hk'⟩ : ∃ k' : Nat, t'.k = k' := ⟨_, rfl⟩
      obtain ⟨n', hn'⟩ : ∃ n' : Int, t'.n = n' := ⟨_, rfl⟩
      obtain ⟨e', he'⟩ : ∃ e' : Int, t'.e = e' := ⟨_, rfl⟩
      obtain ⟨q, hq⟩ : ∃ q : Int, Tk.st t' = q := ⟨_, rfl⟩
      rw [hk', hn', he', hq] at HP
      have HPC : Hid (∀ W, Calls Try.prog 16 #[.agg #[.int .i64 k, .int .i64 n, .int .i64 m, .int .i64 er], .int .u8 (s[i].toNat : Int)] W fun e w' => e = .returned (.tuple #[.agg #[.int .i64 k', .int .i64 n', .int .i64 m, .int .i64 e'], .int .i64 q]) ∧ Below W.heap.size W w') := fun W => (HP W).mono fun e w' hh => hh
      clear HP hG ht' hk hn her
      go_wp2
      go_cut [11, 12] (fun s11 s12 wx => ∃ na, s11 = .pointer (some ⟨na, 0, none⟩) ∧ s12 = .int .i64 q ∧ Nb wx na k' n' m e' ∧ na ≠ w1.heap.size ∧ Below wr.heap.size wr wx)
      case first =>
        go_region_held3 (fun w' => w'.cell? ⟨w1.heap.size, 0, none⟩ = some (.int .i64 k) ∧ w'.cell? ⟨w1.heap.size, 1, none⟩ = some (.int .i64 n) ∧ w'.cell? ⟨w1.heap.size, 2, none⟩ = some (.int .i64 m) ∧ w'.cell? ⟨w1.heap.size, 3, none⟩ = some (.int .i64 er))
          (first | exact ⟨n0, n1, n2, n3⟩ | exact ⟨cell_later (by repeat' (first | (with_reducible exact hBt) | (with_reducible refine Below.alloc ?_ ?_ _) | (with_reducible refine Below.drew ?_) | (with_reducible refine below_drewN ?_ _) | (with_reducible refine Below.setCell ?_ ?_ _) | exact hBt.size | (have := hBt.size; first | omega | (simp; done) | (simp; omega)))) n0, cell_later (by repeat' (first | (with_reducible exact hBt) | (with_reducible refine Below.alloc ?_ ?_ _) | (with_reducible refine Below.drew ?_) | (with_reducible refine below_drewN ?_ _) | (with_reducible refine Below.setCell ?_ ?_ _) | exact hBt.size | (have := hBt.size; first | omega | (simp; done) | (simp; omega)))) n1, cell_later (by repeat' (first | (with_reducible exact hBt) | (with_reducible refine Below.alloc ?_ ?_ _) | (with_reducible refine Below.drew ?_) | (with_reducible refine below_drewN ?_ _) | (with_reducible refine Below.setCell ?_ ?_ _) | exact hBt.size | (have := hBt.size; first | omega | (simp; done) | (simp; omega)))) n2, cell_later (by repeat' (first | (with_reducible exact hBt) | (with_reducible refine Below.alloc ?_ ?_ _) | (with_reducible refine Below.drew ?_) | (with_reducible refine below_drewN ?_ _) | (with_reducible refine Below.setCell ?_ ?_ _) | exact hBt.size | (have := hBt.size; first | omega | (simp; done) | (simp; omega)))) n3⟩)
          (first
            | (go_at_call 16; refine (HPC.out _).mono ?_; rintro e w9 ⟨rfl, hb9⟩; replace hBt := bel_step (w := wr) (by repeat' (first | (with_reducible exact hBt) | (with_reducible refine Below.alloc ?_ ?_ _) | (with_reducible refine Below.drew ?_) | (with_reducible refine below_drewN ?_ _) | (with_reducible refine Below.setCell ?_ ?_ _) | exact hBt.size | (have := hBt.size; first | omega | (simp; done) | (simp; omega)))) hb9; have hsz9 := hBt.size; (try (have hnl9 := hNB.lt)); (try replace hNB := hNB.later hb9); (try ((first | have hNB := Nb.later (Nb.new _ _ _ _ _) hb9 | have hNB := Nb.later (Nb.drew (Nb.new _ _ _ _ _)) hb9); (try simp only [World.size_drew, size_drewN'] at hNB))); (try (obtain ⟨z0, z1, z2, z3⟩ := hNB.cells)); (try (obtain ⟨y0, y1, y2, y3⟩ := hNB.fr))))
        all_goals
          go_wp2_with fail
          go_meet
          case rel =>
            first
              | exact ⟨_, rfl, rfl, hNB.put _ _ _ _, (Nat.ne_of_gt hlt1), (by repeat' (first | (with_reducible exact hBt) | (with_reducible refine Below.alloc ?_ ?_ _) | (with_reducible refine Below.drew ?_) | (with_reducible refine below_drewN ?_ _) | (with_reducible refine Below.setCell ?_ ?_ _) | exact hBt.size | (have := hBt.size; first | omega | (simp; done) | (simp; omega))))⟩
              | exact ⟨_, rfl, rfl, Nb.new _ _ _ _ _, (Nat.ne_of_gt (Nat.lt_of_lt_of_le hlt1 hBt.size)), (by repeat' (first | (with_reducible exact hBt) | (with_reducible refine Below.alloc ?_ ?_ _) | (with_reducible refine Below.drew ?_) | (with_reducible refine below_drewN ?_ _) | (with_reducible refine Below.setCell ?_ ?_ _) | exact hBt.size | (have := hBt.size; first | omega | (simp; done) | (simp; omega))))⟩
      case rest =>
        obtain ⟨na, rfl, rfl, hNc, hne, hBx⟩ := hcut
        have hN1 := HNB.out.later hBx
        have hROW := row_below HROW.out hBx
        have hBw : Below w.heap.size w wc := HB.out.trans (hBx.mono hwz)
        have hb1 : w.heap.size ≤ w1.heap.size := HWZ.out
        obtain ⟨p0, p1, p2, p3⟩ := hNc.cells
        obtain ⟨o0, o1, o2, o3⟩ := hN1.cells
        obtain ⟨g0, g1, g2, g3⟩ := hN1.fr
        have HN1 := Lib.hid hN1
        have HR1 := Lib.hid hROW
        clear hBx hBt hN1 hROW hNc n0 n1 n2 n3 f0 f1 f2 f3
        by_cases h5 : k' = 5
        · have HV2 : Hid (Tk.allV (bytesOf s) m = (acc, u, e')) := by show _ = _; rw [HV.out, Tk.allF_wrong HT.out (by rw [hk']; exact h5), he']
          have hq2 : q = 2 := by rw [← hq]; unfold Tk.st; rw [hk', h5]; rfl
          subst hq2
          clear hq hk' he' hn' hG' HV h5
          go_wp2_with (go_quiet (fail))
          go_ret3
          exact all_fin (row_none (row_put4 HR1.out HNR.out _ _ _ _) (grown_drew _ _ _)) HV2.out (by repeat' (first | (with_reducible exact hBw) | (with_reducible refine Below.setCell ?_ ?_ _) | (with_reducible refine below_drewN' ?_ _) | exact hb1)) (Nat.le_trans hacc (Nat.le_trans hi1 hs))
        by_cases h4 : k' = 4
        · have HV2 : Hid (Tk.allV (bytesOf s) m = Tk.allF m Tk.new (i + 1) ((i : Int) + 1) (acc ++ [n']) ((bytesOf s).drop (i + 1))) := by show _ = _; rw [HV.out, Tk.allF_over HT.out (by rw [hk']; exact h4), hn']
          have hq2 : q = 1 := by rw [← hq]; unfold Tk.st; rw [hk', h4]; rfl
          subst hq2
          clear hq hk' he' hn' hG' HV h5
          have HR4 := Lib.hid (row_put4 HR1.out HNR.out (.int .i64 k') (.int .i64 n') (.int .i64 m) (.int .i64 e'))
          have HN4 := Lib.hid (HN1.out.put k' n' m e')
          have HB4 : Hid (Below w.heap.size w ((((wc.setCell ⟨w1.heap.size, 0, none⟩ (.int .i64 k')).setCell ⟨w1.heap.size, 1, none⟩ (.int .i64 n')).setCell ⟨w1.heap.size, 2, none⟩ (.int .i64 m)).setCell ⟨w1.heap.size, 3, none⟩ (.int .i64 e'))) := by show Below _ _ _; exact (by repeat' (first | (with_reducible exact hBw) | (with_reducible refine Below.setCell ?_ ?_ _) | (with_reducible refine below_drewN' ?_ _) | exact hb1))
          clear h4 HN1 HR1
          go_upto_region 12 with (fail)
          generalize ((((wc.setCell ⟨w1.heap.size, 0, none⟩ (.int .i64 k')).setCell ⟨w1.heap.size, 1, none⟩ (.int .i64 n')).setCell ⟨w1.heap.size, 2, none⟩ (.int .i64 m)).setCell ⟨w1.heap.size, 3, none⟩ (.int .i64 e')) = w4 at HR4 HN4 HB4 ⊢
          obtain ⟨j0, j1, j2, j3⟩ := HN4.out.cells
          have hsz4 := HB4.out.size
          clear p0 p1 p2 p3 o0 o1 o2 o3 g0 g1 g2 g3 hBw
          go_wp2_with (first
            | (at_builtin; refine wpList_append_own _ rfl _ _ 40 rfl w.heap.size 3 i0 (.int .i64 0) 1 8 Try.underlying40 hi hz0 hz1 hz2 rfl (by decide) _ acc.length (acc.map (Value.int .i64)) rfl (HR4.out.alloc _) ⟨w4.heap.size, 0, none⟩ 1 1 [.int .i64 n'] rfl rfl (cell_one_new _ _ _) (by simp [Value.oneCell']) (by unfold maxLen; omega) (by omega) (by simp; omega) ?_; intro v' w5 hown' hgrow _; have HO := Lib.hid hown'; have HN5 := Lib.hid ((HN4.out.alloc (.cells #[.int .i64 n'] 3)).kept hgrow HNR.out); have B5 := Lib.hid ((HB4.out.alloc hsz4 _).grown hgrow (by simp; omega) (fun j ej => (HR4.out.lt j ej).1)); clear hown' hgrow)
            | (go_at_call 15; refine (refNew_any m _).mono ?_; unfold agS; rintro e w6 ⟨rfl, hb6⟩; have HB6 := Lib.hid hb6; obtain ⟨l0, l1, l2, l3⟩ := (HN5.out.later hb6).cells; obtain ⟨y0, y1, y2, y3⟩ := (HN5.out.later hb6).fr; have hr6 := row_below HO.out hb6; clear hb6))
          go_roundw
          case rel =>
            have hb6 := HB6.out
            have hBw := B5.out.trans (hb6.mono B5.out.size)
            exact ⟨i + 1, Tk.new, (i : Int) + 1, acc ++ [n'], by omega, by have := row_put4 hr6 ((HN5.out.later hb6).not_row (by decide) hr6) (.int .i64 0) (.int .i64 0) (.int .i64 m) (.int .i64 9); simpa using this, by go_num, by go_num, Tk.good_new m0, (HN5.out.later hb6).put 0 0 m 9, by decide, (by repeat' (first | (with_reducible exact hBw) | (with_reducible refine Below.setCell ?_ ?_ _) | (with_reducible refine below_drewN' ?_ _) | exact hb1)), by simp; omega, HV2.out⟩
          case measure => simp [intOf]; omega
        · have HV2 : Hid (Tk.allV (bytesOf s) m = Tk.allF m t' (i + 1) u acc ((bytesOf s).drop (i + 1))) := by show _ = _; rw [HV.out, Tk.allF_more HT.out (by rw [hk']; omega)]
          have hq2 : q = 0 := by rw [← hq]; unfold Tk.st; rw [hk', if_neg h4, if_neg h5]
          have hk3 : t'.k ≤ 3 := by rw [hk']; omega
          have HK := Lib.hid hk'
          have HN := Lib.hid hn'
          have HE := Lib.hid he'
          subst hq2
          clear hq hk' he' hn' HV h5 h4 hk5
          go_wp2
          go_roundw
          case rel => exact ⟨i + 1, t', u, acc, by omega, row_put4 HR1.out HNR.out _ _ _ _, rfl, by go_num, hG', by rw [HK.out, HN.out, HE.out]; exact HN1.out.put k' n' m e', hk3, (by repeat' (first | (with_reducible exact hBw) | (with_reducible refine Below.setCell ?_ ?_ _) | (with_reducible refine below_drewN' ?_ _) | exact hb1)), by omega, HV2.out⟩
          case measure => simp [intOf]; omega
    · have HD : Hid ((bytesOf s).drop i = []) := List.drop_eq_nil_of_le (by rw [bytesOf_length]; omega)
      have HV2 : Hid (Tk.allV (bytesOf s) m = (acc, u, if t.bg = true then 6 else 0)) := by show _ = _; rw [hV, HD.out, Tk.allF_nil]
      have HROW := Lib.hid hrow
      have HB := Lib.hid hB
      obtain ⟨o0, o1, o2, o3⟩ := hNb.cells
      obtain ⟨h1, h2, h3, h4, h5, h6, h7, h8⟩ := hG
      by_cases hk : 2 ≤ t.k
      · have hbg := h8 hk (by omega)
        rw [hbg] at HV2
        obtain ⟨k, hk'⟩ : ∃ k : Nat, t.k = k := ⟨_, rfl⟩
        rw [hk'] at o0 hk htk
        have kk : decide ((1 : Int) < (k : Int)) = true := decide_eq_true (by omega)
        have kk1 : (1 : Int) < (k : Int) := by omega
        clear h1 h2 h3 h4 h5 h6 h7 h8 hV hrow hB hNb hB1 hbg hk'
        go_wp2
        go_ret3
        exact all_fin HROW.out HV2.out HB.out (Nat.le_trans hacc (Nat.le_trans hi1 hs))
      · obtain ⟨_, hbg⟩ := h7 (by omega)
        rw [hbg] at HV2
        obtain ⟨k, hk'⟩ : ∃ k : Nat, t.k = k := ⟨_, rfl⟩
        rw [hk'] at o0 hk htk
        have kk : decide ((1 : Int) < (k : Int)) = false := decide_eq_false (by omega)
        have kk1 : ¬ (1 : Int) < (k : Int) := by omega
        clear h1 h2 h3 h4 h5 h6 h7 h8 hV hrow hB hNb hB1 hbg hk'
        go_wp2
        go_ret3
        exact all_fin HROW.out HV2.out HB.out (Nat.le_trans hacc (Nat.le_trans hi1 hs))
end Go.Proofs.Yteonfgphihacgaa

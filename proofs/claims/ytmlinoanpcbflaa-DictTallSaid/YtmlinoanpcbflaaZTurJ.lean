/- A matrix, laid, by the document's own answer: what its Lay comes to, over any memory. Condition: the matrix may be, and is no higher than one may be wide. -/
import Derived.Test.YtmlinoanpcbflaaZTurI
import Derived.Test.YtmlinoanpcbflaaZgAB
namespace Go.Proofs.Ytmlinoanpcbflaa
open Go.RowKit
set_option linter.unusedVariables false

namespace Tu
def qit : Nat → Nat × Nat × List Int → Nat × Nat × List Int
  | 0, s => s
  | k + 1, s => ((qit k s).2.1, (qit k s).1, quaL (qit k s).1 (qit k s).2.1 (qit k s).2.2)
theorem qit_lay {r w h : Nat} (hr : r < 4) {L : List Int} (hL : L.length = w * h) : qit r (w, h, L) = (sw r w h, sw r h w, layL r w h L) := by
  have h4 : r = 0 ∨ r = 1 ∨ r = 2 ∨ r = 3 := by omega
  rcases h4 with rfl | rfl | rfl | rfl
  · rw [lay0 hL]; rfl
  · rfl
  · rw [lay2]; rfl
  · rw [lay3]; rfl
theorem qit_no {g w h : Nat} (hg : g < 4) {L : List Int} (hL : L.length = w * h) : qit (g % 4) (w, h, L) = (sw g w h, sw g h w, layL g w h L) := by
  rw [Nat.mod_eq_of_lt hg]; exact qit_lay hg hL
theorem qit_mi {g w h : Nat} (h4 : 4 ≤ g) (hg : g < 8) {L : List Int} : qit (g % 4) (w, h, mirL w h L) = (sw g w h, sw g h w, layL g w h L) := by
  obtain ⟨r, rfl⟩ : ∃ r, g = 4 + r := ⟨g - 4, by omega⟩
  have hr : r < 4 := by omega
  rw [show (4 + r) % 4 = r by omega, qit_lay hr (by rw [mirL, grid_len]), layM hr]
  have e : ∀ p q, sw (4 + r) p q = sw r p q := fun p q => by unfold sw; rw [show (4 + r) % 2 = r % 2 by omega]
  rw [e, e]
end Tu
theorem ok_of {P Q : Nat} {M : List Int} (h1 : 1 ≤ P) (h2 : P ≤ 4096) (h3 : 1 ≤ Q) (h4 : Q ≤ 4096) (hl : M.length = P * Q) : Rc.Ok P Q M := by
  refine ⟨by omega, by omega, by omega, by omega, ?_, by rw [hl, Nat.mul_comm]; simp⟩
  have : P * Q ≤ 4096 * 4096 := Nat.mul_le_mul h2 h4
  have e : ((P * Q : Nat) : Int) = (P : Int) * Q := Int.natCast_mul ..
  omega
/-- numbers that lie outside two blocks -/
def Away (s : Nat) (w : World) (a : Option Addr) (n : Nat) (M : List Int) : Prop :=
  M.length = n ∧ (n = 0 ∨ ∃ b off, a = some ⟨b, off, none⟩ ∧ (b < s ∨ s + 2 ≤ b) ∧ ∀ i, i < n → w.cell? ⟨b, off + i, none⟩ = some (.int .u64 (M.getD i 0)))
theorem Away.sl {s : Nat} {w : World} {a : Option Addr} {n : Nat} {M : List Int} (h : Away s w a n M) : SlK .u64 w a n M := by
  obtain ⟨h1, h2⟩ := h
  refine ⟨h1, ?_⟩
  rcases h2 with h2 | ⟨b, off, h3, _, h4⟩
  · exact .inl h2
  · exact .inr ⟨b, off, h3, h4⟩
theorem Away.of_sl {w : World} {a : Option Addr} {n : Nat} {M : List Int} (h : SlK .u64 w a n M) : Away w.heap.size w a n M := by
  obtain ⟨h1, h2⟩ := h
  refine ⟨h1, ?_⟩
  rcases h2 with h2 | ⟨b, off, h3, h4⟩
  · exact .inl h2
  · rcases Nat.eq_zero_or_pos n with h0 | h0
    · exact .inl h0
    · exact .inr ⟨b, off, h3, .inl (block_lt_of_cell (h4 0 h0)), h4⟩
theorem Away.of_own {s base : Nat} {w : World} {a : Option Addr} {M : List Int} (h : OwnK .u64 base w a M) (hb : s + 2 ≤ base) : Away s w a M.length M := by
  refine ⟨rfl, ?_⟩
  rcases h with rfl | ⟨g, h1, h2, _, h3, _⟩
  · exact .inl rfl
  · exact .inr ⟨g, 0, h1, .inr (by omega), fun i hi => by simpa using h3 i hi⟩
theorem Away.below {s : Nat} {w w' : World} {a : Option Addr} {n : Nat} {M : List Int} (h : Away s w a n M) (hb : Below w.heap.size w w') : Away s w' a n M := by
  obtain ⟨h1, h2⟩ := h
  refine ⟨h1, ?_⟩
  rcases h2 with h2 | ⟨b, off, h3, h5, h4⟩
  · exact .inl h2
  · exact .inr ⟨b, off, h3, h5, fun i hi => cell_later hb (h4 i hi)⟩
theorem Away.set {s : Nat} {w : World} {a : Option Addr} {n : Nat} {M : List Int} (h : Away s w a n M) (p : Addr) (h6 : s ≤ p.block) (h7 : p.block < s + 2) (y : Value) : Away s (w.setCell p y) a n M := by
  obtain ⟨h1, h2⟩ := h
  refine ⟨h1, ?_⟩
  rcases h2 with h2 | ⟨b, off, h3, h5, h4⟩
  · exact .inl h2
  · refine .inr ⟨b, off, h3, h5, fun i hi => ?_⟩
    rw [World.cell?_setCell_other _ _ _ _ (fun e => by have := congrArg Addr.block e; simp at this; omega)]
    exact h4 i hi
theorem set3 {w : World} {s j : Nat} {a : Option Addr} {n : Nat} {M : List Int} (h : Away s w a n M) (h6 : s ≤ j) (h7 : j < s + 2) (x y z : Value) : Away s (((w.setCell ⟨j, 0, none⟩ x).setCell ⟨j, 1, none⟩ y).setCell ⟨j, 2, none⟩ z) a n M :=
  ((h.set _ h6 h7 x).set _ h6 h7 y).set _ h6 h7 z
theorem bset3 {B : Nat} {w0 w : World} (h : Below B w0 w) {j : Nat} (hj : B ≤ j) (x y z : Value) : Below B w0 (((w.setCell ⟨j, 0, none⟩ x).setCell ⟨j, 1, none⟩ y).setCell ⟨j, 2, none⟩ z) :=
  ((h.setCell (p := ⟨j, 0, none⟩) hj x).setCell (p := ⟨j, 1, none⟩) hj y).setCell (p := ⟨j, 2, none⟩) hj z
theorem Sb.set3 {w : World} {b j : Nat} {t : TypeId} {u v x : Value} (h : Sb w b t u v x) (hne : b ≠ j) (p y z : Value) : Sb (((w.setCell ⟨j, 0, none⟩ p).setCell ⟨j, 1, none⟩ y).setCell ⟨j, 2, none⟩ z) b t u v x :=
  ((h.set ⟨j, 0, none⟩ p hne).set ⟨j, 1, none⟩ y hne).set ⟨j, 2, none⟩ z hne
set_option maxRecDepth 100000 in
set_option maxHeartbeats 8000000 in
theorem refLay_no (W H g : Nat) (a : Option Addr) (c : Nat) (L : List Int) (hg : g < 4) (w1' : 1 ≤ W) (w2 : W ≤ 4096) (h1' : 1 ≤ H) (h2 : H ≤ 4096) (hl : L.length = W * H) (hc : L.length ≤ c) (hc2 : c ≤ 9223372036854775807) (w : World) (hs : SlK .u64 w a L.length L) :
    Calls Try.prog 28 #[.agg #[.int .i64 W, .int .i64 H, .slice a L.length c], .int .i64 g] w fun e w' =>
      ∃ ad cap, e = .returned (.tuple #[.agg #[.int .i64 (Tu.sw g W H : Nat), .int .i64 (Tu.sw g H W : Nat), .slice ad (W * H) cap], .int .i64 0]) ∧ SlK .u64 w' ad (W * H) (Tu.layL g W H L) ∧ W * H ≤ cap ∧ cap ≤ 9223372036854775807 ∧ Below w.heap.size w w' := by
  have HQI := Lib.hid (show Tu.qit (g % 4) (W, H, L) = (Tu.sw g W H, Tu.sw g H W, Tu.layL g W H L) from Tu.qit_no hg hl)
  have HSZ := Lib.hid (show Rc.sized (Tu.sw g W H : Nat) (Tu.sw g H W : Nat) = true by
    have hm : W * H ≤ 4096 * 4096 := Nat.mul_le_mul w2 h2
    have e : ((W * H : Nat) : Int) = (W : Int) * H := Int.natCast_mul ..
    have e2 : ((H * W : Nat) : Int) = (H : Int) * W := Int.natCast_mul ..
    have e3 := Nat.mul_comm W H
    rw [Rc.sized_iff]; unfold Tu.sw; split <;> omega)
  have hm4 : (g : Int).tmod 4 = ((g % 4 : Nat) : Int) := by rw [Int.tmod_eq_emod_of_nonneg (by omega)]; rfl
  have g0 : ¬ (g : Int) < 0 := by omega
  have g7 : ¬ (7 : Int) < (g : Int) := by omega
  have g3 : ¬ (3 : Int) < (g : Int) := by omega
  obtain ⟨r, hr⟩ : ∃ r, g % 4 = r := ⟨_, rfl⟩
  have hr4 : r < 4 := by omega
  rw [hr] at hm4 HQI
  clear hr hg
  rw [hl] at hc hs ⊢
  have HS := Lib.hid hs
  have HLl := Lib.hid hl
  obtain ⟨n, hn⟩ : ∃ n, W * H = n := ⟨_, rfl⟩
  rw [hn] at hc HS HLl ⊢
  have HN := Lib.hid hn
  have HC := Lib.hid hc
  have HDM := Lib.hid (show 1 ≤ W ∧ W ≤ 4096 ∧ 1 ≤ H ∧ H ≤ 4096 from ⟨w1', w2, h1', h2⟩)
  clear hn hl hs w1' w2 h1' h2
  have hD := Lib.hid (show Sb ((w.alloc (.cells #[.int .i64 W, .int .i64 H, .slice a n c] 45)).alloc (.cells #[.int .i64 0, .int .i64 0, .slice none 0 0] 45)) w.heap.size 45 (.int .i64 W) (.int .i64 H) (.slice a n c) from (Sb.new _ _ _ _ _).alloc _)
  have hE := Lib.hid (show Sb ((w.alloc (.cells #[.int .i64 W, .int .i64 H, .slice a n c] 45)).alloc (.cells #[.int .i64 0, .int .i64 0, .slice none 0 0] 45)) (w.heap.size + 1) 45 (.int .i64 0) (.int .i64 0) (.slice none 0 0) from by simpa using Sb.new (w.alloc (.cells #[.int .i64 W, .int .i64 H, .slice a n c] 45)) 45 (.int .i64 0) (.int .i64 0) (.slice none 0 0))
  have HB := Lib.hid (box2 w (.cells #[.int .i64 W, .int .i64 H, .slice a n c] 45) (.cells #[.int .i64 0, .int .i64 0, .slice none 0 0] 45))
  obtain ⟨W0, hW0⟩ : ∃ W0, (w.alloc (.cells #[.int .i64 W, .int .i64 H, .slice a n c] 45)).alloc (.cells #[.int .i64 0, .int .i64 0, .slice none 0 0] 45) = W0 := ⟨_, rfl⟩
  have hz0 : W0.heap.size = w.heap.size + 2 := by rw [← hW0]; simp
  rw [hW0] at hD hE HB
  have HZ0 := Lib.hid hz0
  have HA := Lib.hid ((Away.of_sl HS.out).below HB.out)
  obtain ⟨d0, d1, d2⟩ := hD.out.cells
  clear hz0
  go_enter Try.func28, Try.ntmps28
  go_wp2_with fail
  clear d0 d1 d2
  go_loopg [6] r (fun gg s6 wr => ∃ (k P Q : Nat) (M : List Int) (ad : Option Addr) (cap : Nat), k + gg = r ∧ s6 = .int .i64 k ∧ (P, Q, M) = Tu.qit k (W, H, L) ∧ P * Q = n ∧ (1 ≤ P ∧ P ≤ 4096 ∧ 1 ≤ Q ∧ Q ≤ 4096) ∧ Below w.heap.size w wr ∧ Sb wr w.heap.size 45 (.int .i64 P) (.int .i64 Q) (.slice ad n cap) ∧ Sb wr (w.heap.size + 1) 45 (.int .i64 0) (.int .i64 0) (.slice none 0 0) ∧ Away w.heap.size wr ad n M ∧ n ≤ cap ∧ cap ≤ 9223372036854775807 ∧ w.heap.size + 2 ≤ wr.heap.size)
  case atStart => exact ⟨0, W, H, L, a, c, by omega, rfl, rfl, HN.out, HDM.out, HB.out, hD.out, hE.out, HA.out, HC.out, hc2, by rw [HZ0.out]; exact Nat.le_refl _⟩
  case round =>
    obtain ⟨k, P, Q, M, ad, cap, hk, rfl, hq, hpq, hdm, hB, hDr, hEr, hA, hc1, hc3, hz⟩ := hrel
    obtain ⟨d0, d1, d2⟩ := hDr.cells
    obtain ⟨f0, f1, f2⟩ := hDr.fr
    cases gk with
    | zero =>
      have hkr : k = r := by omega
      have hlt : ¬ (k : Int) < r := by omega
      have hfin := HQI.out
      rw [← hkr, ← hq] at hfin
      have HFI := Lib.hid hfin
      have hsz1 := Lib.hid (fun W2 => refSized_any P Q W2)
      have hsz2 : Rc.sized (P : Nat) (Q : Nat) = true := by
        have := HSZ.out
        injection hfin with e1 e2
        injection e2 with e2 e3
        rw [e1, e2]; exact this
      have HS2 := Lib.hid hsz2
      obtain ⟨e0, e1, e2⟩ := hEr.cells
      obtain ⟨y0, y1, y2⟩ := hEr.fr
      have R := Lib.hid (hEr.put (.int .i64 P) (.int .i64 Q) (.slice ad n cap))
      have hBf := Lib.hid (bset3 hB (j := w.heap.size + 1) (by omega) (.int .i64 P) (.int .i64 Q) (.slice ad n cap))
      have hAf := Lib.hid (set3 hA (j := w.heap.size + 1) (by omega) (by omega) (.int .i64 P) (.int .i64 Q) (.slice ad n cap))
      clear hB hDr hEr hA hfin hq hsz2 hpq hdm
      go_wp2_with (go_at_call 44; refine (hsz1.out _).mono ?_; rw [HS2.out]; rintro e w9 ⟨rfl, rfl⟩)
      refine bodyPost_ret (ret_cell2 Try.results28 _ _ _ _ rfl (load_m R.out)) rfl ?_
      have hfin := HFI.out
      injection hfin with q1 q2
      injection q2 with q2 q3
      rw [← q1, ← q2, ← q3]
      exact ⟨ad, cap, rfl, hAf.out.sl, hc1, hc3, hBf.out⟩
    | succ gg =>
      have hlt : (k : Int) < r := by omega
      have hlM : M.length = P * Q := hA.1.trans hpq.symm
      have hQ := fun W2 h => refQuarter_yes P Q ad cap M (ok_of hdm.1 hdm.2.1 hdm.2.2.1 hdm.2.2.2 hlM) (by rw [hA.1]; exact hc1) hc3 W2 h
      rw [hA.1, hpq] at hQ
      have HQ := Lib.hid hQ
      have HAr := Lib.hid hA
      have HBr := Lib.hid hB
      have HDr := Lib.hid hDr
      have HEr := Lib.hid hEr
      have HPQ := Lib.hid hpq
      have HDm := Lib.hid hdm
      have HQQ := Lib.hid hq
      have HK := Lib.hid hk
      clear hQ hlM hA hB hDr hEr hpq hdm hq hk
      go_wp2_with fail
      refine (HQ.out _ HAr.out.sl).mono ?_
      rintro e w5 ⟨⟨ad1, cap1, rfl, hown, hcap, hcap2⟩, hb5⟩
      clear d0 d1 d2 f0 f1 f2
      obtain ⟨d0, d1, d2⟩ := (HDr.out.later hb5).cells
      obtain ⟨f0, f1, f2⟩ := (HDr.out.later hb5).fr
      have hz5 : wr.heap.size ≤ w5.heap.size := hb5.size
      have hA1 := Away.of_own (s := w.heap.size) hown hz
      rw [Tu.quaL, Tu.grid_len, Nat.mul_comm, HPQ.out] at hA1
      have HA1 := Lib.hid (set3 hA1 (Nat.le_refl _) (by omega) (.int .i64 Q) (.int .i64 P) (.slice ad1 n cap1))
      have HD1 := Lib.hid ((HDr.out.later hb5).put (.int .i64 Q) (.int .i64 P) (.slice ad1 n cap1))
      have HE1 := Lib.hid ((HEr.out.later hb5).set3 (j := w.heap.size) (by omega) (.int .i64 Q) (.int .i64 P) (.slice ad1 n cap1))
      have HB1 := Lib.hid (bset3 (HBr.out.trans (hb5.mono (by omega))) (Nat.le_refl _) (.int .i64 Q) (.int .i64 P) (.slice ad1 n cap1))
      clear hA1 hown hb5
      go_wp2
      go_roundg gg
      case measure => omega
      case rel =>
        obtain ⟨m1, m2, m3, m4⟩ := HDm.out
        exact ⟨k + 1, Q, P, Tu.quaL P Q M, ad1, cap1, (by have := HK.out; omega), by go_num, by rw [Tu.qit, ← HQQ.out], by rw [Nat.mul_comm]; exact HPQ.out, ⟨m3, m4, m1, m2⟩, HB1.out, HD1.out, HE1.out, HA1.out, hcap, hcap2, by simp; omega⟩
set_option maxRecDepth 100000 in
set_option maxHeartbeats 8000000 in
theorem refLay_mi (W H g : Nat) (a : Option Addr) (c : Nat) (L : List Int) (h4 : 4 ≤ g) (hg : g < 8) (w1' : 1 ≤ W) (w2 : W ≤ 4096) (h1' : 1 ≤ H) (h2 : H ≤ 4096) (hl : L.length = W * H) (hc : L.length ≤ c) (hc2 : c ≤ 9223372036854775807) (w : World) (hs : SlK .u64 w a L.length L) :
    Calls Try.prog 28 #[.agg #[.int .i64 W, .int .i64 H, .slice a L.length c], .int .i64 g] w fun e w' =>
      ∃ ad cap, e = .returned (.tuple #[.agg #[.int .i64 (Tu.sw g W H : Nat), .int .i64 (Tu.sw g H W : Nat), .slice ad (W * H) cap], .int .i64 0]) ∧ SlK .u64 w' ad (W * H) (Tu.layL g W H L) ∧ W * H ≤ cap ∧ cap ≤ 9223372036854775807 ∧ Below w.heap.size w w' := by
  have HQI := Lib.hid (show Tu.qit (g % 4) (W, H, Tu.mirL W H L) = (Tu.sw g W H, Tu.sw g H W, Tu.layL g W H L) from Tu.qit_mi h4 hg)
  have HSZ := Lib.hid (show Rc.sized (Tu.sw g W H : Nat) (Tu.sw g H W : Nat) = true by
    have hm : W * H ≤ 4096 * 4096 := Nat.mul_le_mul w2 h2
    have e : ((W * H : Nat) : Int) = (W : Int) * H := Int.natCast_mul ..
    have e2 : ((H * W : Nat) : Int) = (H : Int) * W := Int.natCast_mul ..
    have e3 := Nat.mul_comm W H
    rw [Rc.sized_iff]; unfold Tu.sw; split <;> omega)
  have hm4 : (g : Int).tmod 4 = ((g % 4 : Nat) : Int) := by rw [Int.tmod_eq_emod_of_nonneg (by omega)]; rfl
  have g0 : ¬ (g : Int) < 0 := by omega
  have g7 : ¬ (7 : Int) < (g : Int) := by omega
  have g3 : (3 : Int) < (g : Int) := by omega
  obtain ⟨r, hr⟩ : ∃ r, g % 4 = r := ⟨_, rfl⟩
  have hr4 : r < 4 := by omega
  rw [hr] at hm4 HQI
  clear hr hg h4
  have hMi := Lib.hid (fun W2 h => refMirror_yes W H a c L (ok_of w1' w2 h1' h2 hl) hc hc2 W2 h)
  rw [hl] at hc hs ⊢
  rw [hl] at hMi
  have HS := Lib.hid hs
  have HLl := Lib.hid hl
  obtain ⟨n, hn⟩ : ∃ n, W * H = n := ⟨_, rfl⟩
  rw [hn] at hc HS HLl ⊢
  rw [hn] at hMi
  have HN := Lib.hid hn
  have HC := Lib.hid hc
  have HDM := Lib.hid (show 1 ≤ W ∧ W ≤ 4096 ∧ 1 ≤ H ∧ H ≤ 4096 from ⟨w1', w2, h1', h2⟩)
  clear hn hl hs w1' w2 h1' h2
  have hD := Lib.hid (show Sb ((w.alloc (.cells #[.int .i64 W, .int .i64 H, .slice a n c] 45)).alloc (.cells #[.int .i64 0, .int .i64 0, .slice none 0 0] 45)) w.heap.size 45 (.int .i64 W) (.int .i64 H) (.slice a n c) from (Sb.new _ _ _ _ _).alloc _)
  have hE := Lib.hid (show Sb ((w.alloc (.cells #[.int .i64 W, .int .i64 H, .slice a n c] 45)).alloc (.cells #[.int .i64 0, .int .i64 0, .slice none 0 0] 45)) (w.heap.size + 1) 45 (.int .i64 0) (.int .i64 0) (.slice none 0 0) from by simpa using Sb.new (w.alloc (.cells #[.int .i64 W, .int .i64 H, .slice a n c] 45)) 45 (.int .i64 0) (.int .i64 0) (.slice none 0 0))
  have HB := Lib.hid (box2 w (.cells #[.int .i64 W, .int .i64 H, .slice a n c] 45) (.cells #[.int .i64 0, .int .i64 0, .slice none 0 0] 45))
  obtain ⟨W0, hW0⟩ : ∃ W0, (w.alloc (.cells #[.int .i64 W, .int .i64 H, .slice a n c] 45)).alloc (.cells #[.int .i64 0, .int .i64 0, .slice none 0 0] 45) = W0 := ⟨_, rfl⟩
  have hz0 : W0.heap.size = w.heap.size + 2 := by rw [← hW0]; simp
  rw [hW0] at hD hE HB
  have HZ0 := Lib.hid hz0
  have HA := Lib.hid ((Away.of_sl HS.out).below HB.out)
  obtain ⟨d0, d1, d2⟩ := hD.out.cells
  clear hz0
  go_enter Try.func28, Try.ntmps28
  go_wp2_with fail
  refine (hMi.out _ (HS.out.below HB.out)).mono ?_
  rintro e w1 ⟨⟨ad0, cap0, rfl, hown, hcap, hcap2⟩, hb1⟩
  obtain ⟨d0, d1, d2⟩ := (hD.out.later hb1).cells
  obtain ⟨f0, f1, f2⟩ := (hD.out.later hb1).fr
  have hz1 : W0.heap.size ≤ w1.heap.size := hb1.size
  have hA1 := Away.of_own (s := w.heap.size) hown (by rw [HZ0.out]; exact Nat.le_refl _)
  rw [Tu.mirL, Tu.grid_len, HN.out] at hA1
  have HA1 := Lib.hid (set3 hA1 (Nat.le_refl _) (by omega) (.int .i64 W) (.int .i64 H) (.slice ad0 n cap0))
  have HD1 := Lib.hid ((hD.out.later hb1).put (.int .i64 W) (.int .i64 H) (.slice ad0 n cap0))
  have HE1 := Lib.hid ((hE.out.later hb1).set3 (j := w.heap.size) (by omega) (.int .i64 W) (.int .i64 H) (.slice ad0 n cap0))
  have HB1 := Lib.hid (bset3 (bel_step HB.out hb1) (Nat.le_refl _) (.int .i64 W) (.int .i64 H) (.slice ad0 n cap0))
  clear hA1 hown hb1
  go_wp2_with fail
  clear d0 d1 d2 f0 f1 f2
  go_loopg [6] r (fun gg s6 wr => ∃ (k P Q : Nat) (M : List Int) (ad : Option Addr) (cap : Nat), k + gg = r ∧ s6 = .int .i64 k ∧ (P, Q, M) = Tu.qit k (W, H, Tu.mirL W H L) ∧ P * Q = n ∧ (1 ≤ P ∧ P ≤ 4096 ∧ 1 ≤ Q ∧ Q ≤ 4096) ∧ Below w.heap.size w wr ∧ Sb wr w.heap.size 45 (.int .i64 P) (.int .i64 Q) (.slice ad n cap) ∧ Sb wr (w.heap.size + 1) 45 (.int .i64 0) (.int .i64 0) (.slice none 0 0) ∧ Away w.heap.size wr ad n M ∧ n ≤ cap ∧ cap ≤ 9223372036854775807 ∧ w.heap.size + 2 ≤ wr.heap.size)
  case atStart => exact ⟨0, W, H, Tu.mirL W H L, ad0, cap0, by omega, rfl, rfl, HN.out, HDM.out, HB1.out, HD1.out, HE1.out, HA1.out, hcap, hcap2, by simpa [HZ0.out] using hz1⟩
  case round =>
    obtain ⟨k, P, Q, M, ad, cap, hk, rfl, hq, hpq, hdm, hB, hDr, hEr, hA, hc1, hc3, hz⟩ := hrel
    obtain ⟨d0, d1, d2⟩ := hDr.cells
    obtain ⟨f0, f1, f2⟩ := hDr.fr
    cases gk with
    | zero =>
      have hkr : k = r := by omega
      have hlt : ¬ (k : Int) < r := by omega
      have hfin := HQI.out
      rw [← hkr, ← hq] at hfin
      have HFI := Lib.hid hfin
      have hsz1 := Lib.hid (fun W2 => refSized_any P Q W2)
      have hsz2 : Rc.sized (P : Nat) (Q : Nat) = true := by
        have := HSZ.out
        injection hfin with e1 e2
        injection e2 with e2 e3
        rw [e1, e2]; exact this
      have HS2 := Lib.hid hsz2
      obtain ⟨e0, e1, e2⟩ := hEr.cells
      obtain ⟨y0, y1, y2⟩ := hEr.fr
      have R := Lib.hid (hEr.put (.int .i64 P) (.int .i64 Q) (.slice ad n cap))
      have hBf := Lib.hid (bset3 hB (j := w.heap.size + 1) (by omega) (.int .i64 P) (.int .i64 Q) (.slice ad n cap))
      have hAf := Lib.hid (set3 hA (j := w.heap.size + 1) (by omega) (by omega) (.int .i64 P) (.int .i64 Q) (.slice ad n cap))
      clear hB hDr hEr hA hfin hq hsz2 hpq hdm
      go_wp2_with (go_at_call 44; refine (hsz1.out _).mono ?_; rw [HS2.out]; rintro e w9 ⟨rfl, rfl⟩)
      refine bodyPost_ret (ret_cell2 Try.results28 _ _ _ _ rfl (load_m R.out)) rfl ?_
      have hfin := HFI.out
      injection hfin with q1 q2
      injection q2 with q2 q3
      rw [← q1, ← q2, ← q3]
      exact ⟨ad, cap, rfl, hAf.out.sl, hc1, hc3, hBf.out⟩
    | succ gg =>
      have hlt : (k : Int) < r := by omega
      have hlM : M.length = P * Q := hA.1.trans hpq.symm
      have hQ := fun W2 h => refQuarter_yes P Q ad cap M (ok_of hdm.1 hdm.2.1 hdm.2.2.1 hdm.2.2.2 hlM) (by rw [hA.1]; exact hc1) hc3 W2 h
      rw [hA.1, hpq] at hQ
      have HQ := Lib.hid hQ
      have HAr := Lib.hid hA
      have HBr := Lib.hid hB
      have HDr := Lib.hid hDr
      have HEr := Lib.hid hEr
      have HPQ := Lib.hid hpq
      have HDm := Lib.hid hdm
      have HQQ := Lib.hid hq
      have HK := Lib.hid hk
      clear hQ hlM hA hB hDr hEr hpq hdm hq hk
      go_wp2_with fail
      refine (HQ.out _ HAr.out.sl).mono ?_
      rintro e w5 ⟨⟨ad1, cap1, rfl, hown, hcap, hcap2⟩, hb5⟩
      clear d0 d1 d2 f0 f1 f2
      obtain ⟨d0, d1, d2⟩ := (HDr.out.later hb5).cells
      obtain ⟨f0, f1, f2⟩ := (HDr.out.later hb5).fr
      have hz5 : wr.heap.size ≤ w5.heap.size := hb5.size
      have hA1 := Away.of_own (s := w.heap.size) hown hz
      rw [Tu.quaL, Tu.grid_len, Nat.mul_comm, HPQ.out] at hA1
      have HA1 := Lib.hid (set3 hA1 (Nat.le_refl _) (by omega) (.int .i64 Q) (.int .i64 P) (.slice ad1 n cap1))
      have HD1 := Lib.hid ((HDr.out.later hb5).put (.int .i64 Q) (.int .i64 P) (.slice ad1 n cap1))
      have HE1 := Lib.hid ((HEr.out.later hb5).set3 (j := w.heap.size) (by omega) (.int .i64 Q) (.int .i64 P) (.slice ad1 n cap1))
      have HB1 := Lib.hid (bset3 (HBr.out.trans (hb5.mono (by omega))) (Nat.le_refl _) (.int .i64 Q) (.int .i64 P) (.slice ad1 n cap1))
      clear hA1 hown hb5
      go_wp2
      go_roundg gg
      case measure => omega
      case rel =>
        obtain ⟨m1, m2, m3, m4⟩ := HDm.out
        exact ⟨k + 1, Q, P, Tu.quaL P Q M, ad1, cap1, (by have := HK.out; omega), by go_num, by rw [Tu.qit, ← HQQ.out], by rw [Nat.mul_comm]; exact HPQ.out, ⟨m3, m4, m1, m2⟩, HB1.out, HD1.out, HE1.out, HA1.out, hcap, hcap2, by simp; omega⟩
theorem refLay_any (W H g : Nat) (a : Option Addr) (c : Nat) (L : List Int) (hg : g < 8) (w1' : 1 ≤ W) (w2 : W ≤ 4096) (h1' : 1 ≤ H) (h2 : H ≤ 4096) (hl : L.length = W * H) (hc : L.length ≤ c) (hc2 : c ≤ 9223372036854775807) (w : World) (hs : SlK .u64 w a L.length L) :
    Calls Try.prog 28 #[.agg #[.int .i64 W, .int .i64 H, .slice a L.length c], .int .i64 g] w fun e w' =>
      ∃ ad cap, e = .returned (.tuple #[.agg #[.int .i64 (Tu.sw g W H : Nat), .int .i64 (Tu.sw g H W : Nat), .slice ad (W * H) cap], .int .i64 0]) ∧ SlK .u64 w' ad (W * H) (Tu.layL g W H L) ∧ W * H ≤ cap ∧ cap ≤ 9223372036854775807 ∧ Below w.heap.size w w' := by
  by_cases h4 : 4 ≤ g
  · exact refLay_mi W H g a c L h4 hg w1' w2 h1' h2 hl hc hc2 w hs
  · exact refLay_no W H g a c L (by omega) w1' w2 h1' h2 hl hc hc2 w hs
set_option maxHeartbeats 1000000 in
theorem refLay_arg (W H g : Int) (a : Option Addr) (n c : Nat) (hg : Tu.isT g = false) (w : World) :
    Calls Try.prog 28 #[.agg #[.int .i64 W, .int .i64 H, .slice a n c], .int .i64 g] w fun e w' => e = .returned (.tuple #[.agg #[.int .i64 0, .int .i64 0, .slice none 0 0], .int .i64 1]) ∧ Below w.heap.size w w' := by
  have h := Tu.isT_no.1 hg
  clear hg
  by_cases h1 : g < 0
  · clear h
    go_enter Try.func28, Try.ntmps28
    go_wp2
    go_returns
    exact ⟨rfl, by go_grown⟩
  · have h2 : 7 < g := by omega
    clear h
    go_enter Try.func28, Try.ntmps28
    go_wp2
    go_returns
    exact ⟨rfl, by go_grown⟩
end Go.Proofs.Ytmlinoanpcbflaa

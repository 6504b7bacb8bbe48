/- A row, a column, a part, by the document. Condition: the matrix may be. -/
import Derived.Test.YtlihkdbbcnmbmaaRecM
namespace Go.Proofs.Ytlihkdbbcnmbmaa
open Go.RowKit
set_option linter.unusedVariables false

theorem ownsRow_cap9 {w : World} {base size k n cap : Nat} {e : TypeId} {ad : Option Addr} {xs : List Value} (h : w.ownsRow base e size (.slice ad n cap) k xs) : cap ≤ 9223372036854775807 := by
  rcases h.2 with ⟨h1, _⟩ | ⟨g, c, cur, h1, _, _, _, h9, _⟩
  · injection h1 with _ _ h3; omega
  · injection h1 with _ _ h3; subst h3; exact h9
theorem flatMap_one {α : Type} (f : Nat → α) (n : Nat) : (List.range n).flatMap (fun i => [f i]) = (List.range n).map f := by
  induction n with
  | zero => rfl
  | succ n ih => rw [flat_succ, ih, List.range_succ, List.map_append]; rfl
theorem cut_map {L : List Int} {W x y w : Int} (h : y.toNat * W.toNat + x.toNat + w.toNat ≤ L.length) : Rc.cutL L W x y w = (List.range w.toNat).map fun i => L.getD (y.toNat * W.toNat + x.toNat + i) 0 := by
  unfold Rc.cutL
  refine List.ext_getElem (by simp; omega) fun i h1 h2 => ?_
  simp at h1 h2
  simp [List.getElem_take, List.getElem_drop]
  rw [List.getElem?_eq_getElem (by omega)]; rfl
/-- row k of a part, its first i numbers -/
def pRow (L : List Int) (W x y : Int) (k i : Nat) : List Int := (List.range i).map fun (i : Nat) => L.getD ((y + k).toNat * W.toNat + (x + i).toNat) 0
theorem pRow_succ (L : List Int) (W x y : Int) (k i : Nat) : pRow L W x y k (i + 1) = pRow L W x y k i ++ [L.getD ((y + k).toNat * W.toNat + (x + i).toNat) 0] := by simp [pRow, List.range_succ]
theorem pRow_len (L : List Int) (W x y : Int) (k i : Nat) : (pRow L W x y k i).length = i := by simp [pRow]
theorem pRow_all {L : List Int} {W H x y w h : Int} (ho : Rc.Ok W H L) (hx : Rc.insV x w W = true) (hy : Rc.insV y h H = true) {k : Nat} (hk : k < h.toNat) : pRow L W x y k w.toNat = Rc.cutL L W x (y + k) w := by
  obtain ⟨p1, p2, p3, p4⟩ := place ho hx (Rc.insV_row hy hk)
  obtain ⟨a1, a2, a3, a4⟩ := Rc.insV_iff.1 hx
  rw [cut_map p3, pRow]
  refine List.map_congr_left fun i hi => ?_
  rw [show (x + (i : Int)).toNat = x.toNat + i by omega, Nat.add_assoc]
def pRows (L : List Int) (W x y w : Int) (k : Nat) : List Int := Rc.rowsOf (fun j => pRow L W x y j w.toNat) k
theorem pRows_len (L : List Int) (W x y w : Int) (k : Nat) : (pRows L W x y w k).length = k * w.toNat := Rc.rowsOf_length fun j hj => pRow_len ..
set_option maxRecDepth 100000 in
set_option maxHeartbeats 8000000 in
theorem refSub_yes (W H x y p q : Int) (a : Option Addr) (c : Nat) (L : List Int) (hL : Rc.Ok W H L) (hc : L.length ≤ c) (hc2 : c ≤ 9223372036854775807) (hx : Rc.insV x p W = true) (hy : Rc.insV y q H = true) (w : World) (hs : SlK .u64 w a L.length L) :
    Calls Try.prog 98 #[.agg #[.int .i64 W, .int .i64 H, .slice a L.length c], .int .i64 x, .int .i64 y, .int .i64 p, .int .i64 q] w fun e w' =>
      MatR w.heap.size w' e (p, q, Rc.subL L W x y p q) [.bool true] ∧ Below w.heap.size w w' := by
  have hn := ok_len hL
  have hSO := Rc.sub_ok hL hx hy
  have hW := hL.2.1
  have hH := hL.2.2.2.1
  obtain ⟨a1, a2, a3, a4⟩ := Rc.insV_iff.1 hx
  obtain ⟨b1, b2, b3, b4⟩ := Rc.insV_iff.1 hy
  have hAt := Lib.hid (fun (X Y : Int) (W2 : World) h => refAt_any W H X Y a c L hL hc hc2 W2 h)
  have HS := Lib.hid hs
  have HL := Lib.hid hL
  have HX := Lib.hid hx
  have HY := Lib.hid hy
  have HSO := Lib.hid (ok_len hSO)
  have HSL := Lib.hid hSO.2.2.2.2.2
  obtain ⟨n, hnn⟩ : ∃ n, L.length = n := ⟨_, rfl⟩
  rw [hnn] at hc hAt HS hn ⊢
  have hD := Lib.hid (show Sb ((w.alloc (.cells #[.int .i64 W, .int .i64 H, .slice a n c] 25)).alloc (.cells #[.int .i64 0, .int .i64 0, .slice none 0 0] 25)) w.heap.size 25 (.int .i64 W) (.int .i64 H) (.slice a n c) from (Sb.new _ _ _ _ _).alloc _)
  have hE := Lib.hid (show Sb ((w.alloc (.cells #[.int .i64 W, .int .i64 H, .slice a n c] 25)).alloc (.cells #[.int .i64 0, .int .i64 0, .slice none 0 0] 25)) (w.heap.size + 1) 25 (.int .i64 0) (.int .i64 0) (.slice none 0 0) from by simpa using Sb.new (w.alloc (.cells #[.int .i64 W, .int .i64 H, .slice a n c] 25)) 25 (.int .i64 0) (.int .i64 0) (.slice none 0 0))
  have B := Lib.hid (box2 w (.cells #[.int .i64 W, .int .i64 H, .slice a n c] 25) (.cells #[.int .i64 0, .int .i64 0, .slice none 0 0] 25))
  have k1 : ¬ x < 0 := by omega
  have k2 : ¬ y < 0 := by omega
  have k3 : ¬ p < 1 := by omega
  have k4 : ¬ q < 1 := by omega
  have k5 : ¬ W < x := by omega
  have k6 : ¬ H < y := by omega
  have k7 : wrap64 (W - x) = W - x := by rw [IntWalk.wrap64_in] <;> omega
  have k8 : wrap64 (H - y) = H - y := by rw [IntWalk.wrap64_in] <;> omega
  have k9 : ¬ W - x < p := by omega
  have k10 : ¬ H - y < q := by omega
  obtain ⟨i0, hi, hz0, hz1, hz2⟩ := info_parts Try.info_px
  clear hnn hL hx hy hs hSO
  go_enter Try.func98, Try.ntmps98
  go_wp2
  obtain ⟨W0, hW0⟩ : ∃ W0, (w.alloc (.cells #[.int .i64 W, .int .i64 H, .slice a n c] 25)).alloc (.cells #[.int .i64 0, .int .i64 0, .slice none 0 0] 25) = W0 := ⟨_, rfl⟩
  rw [hW0] at hD hE B ⊢
  have h0 : w.heap.size + 2 = W0.heap.size := by rw [← hW0]; simp
  have HO := Lib.hid (Sb.new W0 25 (.int .i64 p) (.int .i64 q) (.slice none 0 0))
  have HB0 := Lib.hid (box1 W0 (.cells #[.int .i64 p, .int .i64 q, .slice none 0 0] 25))
  simp only [show w.heap.size + 1 + 1 = W0.heap.size from h0]
  have H0 := Lib.hid h0
  clear hW0 k1 k2 k3 k4 k5 k6 k7 k8 k9 k10 h0
  go_loopg [13] q.toNat (fun g s13 wr => ∃ (k : Nat) (v : Value), k + g = q.toNat ∧ s13 = .int .i64 k ∧ Below W0.heap.size W0 wr ∧ W0.heap.size + 1 ≤ wr.heap.size ∧ Sb wr W0.heap.size 25 (.int .i64 p) (.int .i64 q) v ∧ wr.ownsRow (W0.heap.size + 1) 51 1 v (pRows L W x y p k).length ((pRows L W x y p k).map (Value.int .u64)))
  case atStart => exact ⟨0, _, by omega, rfl, HB0.out, by simp, HO.out, World.ownsRow_nil _ _ _ _⟩
  case round =>
    obtain ⟨k, v, hk, rfl, hBr, hsz, hOr, hrow⟩ := hrel
    cases gk with
    | zero =>
      have hlt : ¬ (k : Int) < q := by omega
      obtain rfl : k = q.toNat := by omega
      obtain ⟨ad, cap, rfl, hown, hcap⟩ := ownK_row rfl hrow
      have hcap2 := ownsRow_cap9 hrow
      obtain ⟨o0, o1, o2⟩ := hOr.cells
      have hE1 := hE.out.later hBr
      obtain ⟨e0, e1, e2⟩ := hE1.cells
      obtain ⟨f0, f1, f2⟩ := hE1.fr
      have hpl : pRows L W x y p q.toNat = Rc.subL L W x y p q := Rc.rowsOf_congr fun j hj => pRow_all HL.out HX.out HY.out hj
      rw [hpl] at hown hcap o2 hOr
      go_wp2
      have h0 := H0.out
      have R := hE1.put (.int .i64 p) (.int .i64 q) (.slice ad (Rc.subL L W x y p q).length cap)
      refine bodyPost_ret (ret_cell2 Try.results98 _ _ _ _ rfl (load_m R)) rfl ?_
      have hBf := (((bel_step (w := w) B.out hBr).setCell (p := ⟨w.heap.size + 1, 0, none⟩) (by simp) (.int .i64 p)).setCell (p := ⟨w.heap.size + 1, 1, none⟩) (by simp) (.int .i64 q)).setCell (p := ⟨w.heap.size + 1, 2, none⟩) (by simp) (.slice ad (Rc.subL L W x y p q).length cap)
      exact ⟨⟨ad, cap, rfl, (ownK_set (ownK_set (ownK_set hown (by simp; omega) _) (by simp; omega) _) (by simp; omega) _).mono (by omega), hcap, hcap2⟩, hBf⟩
    | succ g =>
      have hlt : (k : Int) < q := by omega
      go_wp2
      have HB1 := Lib.hid hBr
      have HO1 := Lib.hid hOr
      have HR1 := Lib.hid hrow
      have HK := Lib.hid hk
      clear hBr hOr hrow
      go_loopg [14] p.toNat (fun g2 s14 wx => ∃ (i : Nat) (v : Value), i + g2 = p.toNat ∧ s14 = .int .i64 i ∧ Below W0.heap.size W0 wx ∧ W0.heap.size + 1 ≤ wx.heap.size ∧ Sb wx W0.heap.size 25 (.int .i64 p) (.int .i64 q) v ∧ wx.ownsRow (W0.heap.size + 1) 51 1 v (pRows L W x y p k ++ pRow L W x y k i).length ((pRows L W x y p k ++ pRow L W x y k i).map (Value.int .u64)))
      case atStart => exact ⟨0, _, by omega, rfl, HB1.out, hsz, HO1.out, by simpa [pRow] using HR1.out⟩
      case round =>
        obtain ⟨i, v2, hi2, rfl, hBr, hsz2, hOr, hrow⟩ := hrel
        cases gk with
        | zero =>
          have hlt2 : ¬ (i : Int) < p := by omega
          obtain rfl : i = p.toNat := by omega
          go_wp2
          go_roundg g
          case measure => omega
          case rel => exact ⟨k + 1, _, by have := HK.out; omega, by go_num, hBr, hsz2, hOr, by rw [show pRows L W x y p (k + 1) = pRows L W x y p k ++ pRow L W x y k p.toNat from Rc.rowsOf_succ _ _]; exact hrow⟩
        | succ g2 =>
          have hlt2 : (i : Int) < p := by omega
          have hxi : wrap64 (x + i) = x + i := by rw [IntWalk.wrap64_in] <;> omega
          have hyk : wrap64 (y + k) = y + k := by rw [IntWalk.wrap64_in] <;> omega
          obtain ⟨d0, d1, d2⟩ := (hD.out.later hBr).cells
          have hin : (Rc.insV (x + i) 1 W && Rc.insV (y + k) 1 H) = true := by rw [Bool.and_eq_true, Rc.insV_iff, Rc.insV_iff]; omega
          have hAt1 := Lib.hid (hAt.out (x + i) (y + k) wr ((HS.out.below B.out).below hBr))
          have hval := Lib.hid (show Rc.atV W H L (x + i) (y + k) = (L.getD ((y + k).toNat * W.toNat + (x + i).toNat) 0, true) by simp only [Rc.atV, hin, if_true])
          rw [hval.out] at hAt1
          obtain ⟨u, HU⟩ : ∃ u, Hid (L.getD ((y + k).toNat * W.toNat + (x + i).toNat) 0 = u) := ⟨_, rfl⟩
          rw [HU.out] at hAt1
          have hlen : (pRows L W x y p k ++ pRow L W x y k i).length ≤ 16777216 := by
            have h1 := HSL.out
            have h2 := HSO.out
            rw [List.length_append, pRows_len, pRow_len]
            have h3 : (k + 1) * p.toNat ≤ q.toNat * p.toNat := Nat.mul_le_mul_right _ (by omega)
            rw [Nat.succ_mul] at h3
            omega
          obtain ⟨F, hF⟩ : ∃ F, pRows L W x y p k ++ pRow L W x y k i = F := ⟨_, rfl⟩
          rw [hF] at hrow hlen
          have HF := Lib.hid hF
          clear hF hin
          go_wp2_with (first
            | (go_at_call 46; refine hAt1.out.mono ?_; rintro e w9 ⟨rfl, hb9⟩; have hrow9 := ownsRow_later hrow hb9; have hOr9 := hOr.later hb9; have hBr9 := hBr.trans (hb9.mono hBr.size); have hsz9 := Nat.le_trans hsz2 hb9.size; obtain ⟨o0, o1, o2⟩ := hOr9.cells)
            | (at_builtin; refine wpList_append_own _ rfl _ _ 23 rfl (W0.heap.size + 1) 51 i0 (.int .u64 0) 1 8 Try.underlying23 hi hz0 hz1 hz2 rfl (by decide) v2 F.length _ rfl (hrow9.alloc _) ⟨w9.heap.size, 0, none⟩ 1 1 [.int .u64 u] rfl rfl (cell_one_new _ _ _) (by simp [Value.oneCell']) (by unfold maxLen; omega) (by omega) (by simp; omega) ?_; intro v' w1 hown' hgrow' _; obtain ⟨ad', cap', rfl⟩ := ownsRow_val hown'; obtain ⟨j1, j2, j3, j4, j5⟩ := pushL hOr9 hrow9 (Nat.lt_succ_self _) hsz9 hown' hgrow'; obtain ⟨r0, r1, r2⟩ := j1.cells; obtain ⟨r3, r4, r5⟩ := j1.fr))
          go_roundg g2
          case measure => omega
          case rel =>
            refine ⟨i + 1, _, by omega, by go_num, hBr9.trans (j4 _ (Nat.le_refl _)), j5, j2, ?_⟩
            rw [pRow_succ, ← List.append_assoc, HF.out, HU.out, List.map_append, List.length_append]
            exact j3
end Go.Proofs.Ytlihkdbbcnmbmaa

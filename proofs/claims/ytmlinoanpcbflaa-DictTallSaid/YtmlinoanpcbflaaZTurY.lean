/- A matrix mirrored, and turned by a quarter, by the document's own answer: its numbers lie in a row of pixels. Condition: the matrix may be. -/
import Derived.Test.YtmlinoanpcbflaaZTurI
namespace Go.Proofs.Ytmlinoanpcbflaa
open Go.RowKit
set_option linter.unusedVariables false

/-- the block that an address leads to holds pixels -/
def Px0 (w : World) (ad : Option Addr) : Prop := ∀ b off, ad = some ⟨b, off, none⟩ → ∃ cs, w.heap[b]? = some (.cells cs 23 (0, 0))
theorem Px0.set {w : World} {ad : Option Addr} (h : Px0 w ad) (a : Addr) (y : Value) (hne : ∀ b off, ad = some ⟨b, off, none⟩ → b ≠ a.block) : Px0 (w.setCell a y) ad := fun b off e => by
  obtain ⟨cs, hc⟩ := h b off e
  exact ⟨cs, heapSet w a y hc (hne b off e)⟩
theorem Px0.later {w w' : World} {ad : Option Addr} (h : Px0 w ad) (hb : Below w.heap.size w w') : Px0 w' ad := fun b off e => by
  obtain ⟨cs, hc⟩ := h b off e
  exact ⟨cs, (hb.block b (Array.getElem?_eq_some_iff.1 hc).1).trans hc⟩
theorem px0_row {w : World} {base n k cap : Nat} {ad : Option Addr} {xs : List Value} (h : w.ownsRow base 23 1 (.slice ad n cap) k xs) : Px0 w ad := fun b off e => by
  rcases h.2 with ⟨h1, _⟩ | ⟨g, c, cur, h1, _, hg, _⟩
  · injection h1 with h2; rw [e] at h2; cases h2
  · injection h1 with h2; rw [e] at h2; injection h2 with h2; injection h2 with h2
    subst h2
    exact ⟨cur, hg⟩
theorem px0_ge {w : World} {base n k cap : Nat} {ad : Option Addr} {xs : List Value} (h : w.ownsRow base 23 1 (.slice ad n cap) k xs) : ∀ b off, ad = some ⟨b, off, none⟩ → base ≤ b := fun b off e => by
  rcases h.2 with ⟨h1, _⟩ | ⟨g, c, cur, h1, hb, hg, _⟩
  · injection h1 with h2; rw [e] at h2; cases h2
  · injection h1 with h2; rw [e] at h2; injection h2 with h2; injection h2 with h2
    subst h2
    exact hb
set_option maxRecDepth 100000 in
set_option maxHeartbeats 8000000 in
theorem refMirror_ty (W H : Nat) (a : Option Addr) (c : Nat) (L : List Int) (hL : Rc.Ok W H L) (hc : L.length ≤ c) (hc2 : c ≤ 9223372036854775807) (w : World) (hs : SlK .u64 w a L.length L) :
    Calls Try.prog 42 #[.agg #[.int .i64 W, .int .i64 H, .slice a L.length c]] w fun e w' =>
      (∃ ad cap, e = .returned (.agg #[.int .i64 W, .int .i64 H, .slice ad (W * H) cap]) ∧ OwnK .u64 w.heap.size w' ad (Tu.mirL W H L) ∧ W * H ≤ cap ∧ cap ≤ 9223372036854775807 ∧ Px0 w' ad) ∧ Below w.heap.size w w' := by
  have hn := ok_len hL
  have hAt := Lib.hid (fun (X Y : Int) (W2 : World) h => refAt_any W H X Y a c L hL hc hc2 W2 h)
  have HS := Lib.hid hs
  have HL := Lib.hid hL
  have hW := hL.2.1
  have hH := hL.2.2.2.1
  have hLn : L.length = W * H := by rw [hL.2.2.2.2.2, Nat.mul_comm]; simp
  obtain ⟨f, hf⟩ : ∃ f : Nat → Nat → Int, (fun x y => Tu.atL L W (W - 1 - x) y) = f := ⟨_, rfl⟩
  have HF := Lib.hid (fun x y => (congrFun (congrFun hf x) y).symm)
  have HG := Lib.hid (show Tu.mirL W H L = gRows f W H by rw [← hf]; exact Tu.grid_rows ..)
  have HN := Lib.hid (show (gRows f W H).length = W * H by rw [gRows_len, Nat.mul_comm])
  have HM := Lib.hid (show W * H ≤ 16777216 by rw [← hLn]; exact hn)
  obtain ⟨n, hnn⟩ : ∃ n, L.length = n := ⟨_, rfl⟩
  rw [hnn] at hc hAt HS hn ⊢
  clear hf hL hs hnn hLn
  have hD := Lib.hid (show Sb ((w.alloc (.cells #[.int .i64 W, .int .i64 H, .slice a n c] 45)).alloc (.cells #[.int .i64 0, .int .i64 0, .slice none 0 0] 45)) w.heap.size 45 (.int .i64 W) (.int .i64 H) (.slice a n c) from (Sb.new _ _ _ _ _).alloc _)
  have hE := Lib.hid (show Sb ((w.alloc (.cells #[.int .i64 W, .int .i64 H, .slice a n c] 45)).alloc (.cells #[.int .i64 0, .int .i64 0, .slice none 0 0] 45)) (w.heap.size + 1) 45 (.int .i64 0) (.int .i64 0) (.slice none 0 0) from by simpa using Sb.new (w.alloc (.cells #[.int .i64 W, .int .i64 H, .slice a n c] 45)) 45 (.int .i64 0) (.int .i64 0) (.slice none 0 0))
  have B := Lib.hid (box2 w (.cells #[.int .i64 W, .int .i64 H, .slice a n c] 45) (.cells #[.int .i64 0, .int .i64 0, .slice none 0 0] 45))
  obtain ⟨i0, hi, hz0, hz1, hz2⟩ := info_parts Try.info_px
  go_enter Try.func42, Try.ntmps42
  go_wp2
  obtain ⟨W0, hW0⟩ : ∃ W0, (w.alloc (.cells #[.int .i64 W, .int .i64 H, .slice a n c] 45)).alloc (.cells #[.int .i64 0, .int .i64 0, .slice none 0 0] 45) = W0 := ⟨_, rfl⟩
  rw [hW0] at hD hE B ⊢
  have h0 : w.heap.size + 2 = W0.heap.size := by rw [← hW0]; simp
  have HO := Lib.hid (Sb.new W0 45 (.int .i64 W) (.int .i64 H) (.slice none 0 0))
  have HB0 := Lib.hid (box1 W0 (.cells #[.int .i64 W, .int .i64 H, .slice none 0 0] 45))
  simp only [show w.heap.size + 1 + 1 = W0.heap.size from h0]
  have H0 := Lib.hid h0
  clear hW0 h0
  go_loopg [4] H (fun g s4 wr => ∃ (k : Nat) (v : Value), k + g = H ∧ s4 = .int .i64 k ∧ Below W0.heap.size W0 wr ∧ W0.heap.size + 1 ≤ wr.heap.size ∧ Sb wr W0.heap.size 45 (.int .i64 W) (.int .i64 H) v ∧ wr.ownsRow (W0.heap.size + 1) 23 1 v (gRows f W k).length ((gRows f W k).map (Value.int .u64)))
  case atStart => exact ⟨0, _, by omega, rfl, HB0.out, by simp, HO.out, World.ownsRow_nil _ _ _ _⟩
  case round =>
    obtain ⟨k, v, hk, rfl, hBr, hsz, hOr, hrow⟩ := hrel
    obtain ⟨d0, d1, d2⟩ := (hD.out.later hBr).cells
    cases gk with
    | zero =>
      have hlt : ¬ (k : Int) < H := by omega
      have hkN : k = H := by omega
      rw [hkN] at hrow
      obtain ⟨ad, cap, rfl, hown, hcap⟩ := ownK_row rfl hrow
      have hcap2 := ownsRow_cap9 hrow
      have hty := px0_row hrow
      have hge := px0_ge hrow
      rw [HN.out] at hcap hOr
      obtain ⟨o0, o1, o2⟩ := hOr.cells
      have hE1 := hE.out.later hBr
      obtain ⟨e0, e1, e2⟩ := hE1.cells
      obtain ⟨f0, f1, f2⟩ := hE1.fr
      rw [← HG.out] at hown
      go_wp2
      have h0 := H0.out
      have R := hE1.put (.int .i64 W) (.int .i64 H) (.slice ad (W * H) cap)
      refine bodyPost_ret (ret_cell1 Try.results42 _ _ _ _ rfl (load_m R)) rfl ?_
      have hBf := (((bel_step (w := w) B.out hBr).setCell (p := ⟨w.heap.size + 1, 0, none⟩) (by simp) (.int .i64 W)).setCell (p := ⟨w.heap.size + 1, 1, none⟩) (by simp) (.int .i64 H)).setCell (p := ⟨w.heap.size + 1, 2, none⟩) (by simp) (.slice ad (W * H) cap)
      exact ⟨⟨ad, cap, rfl, (ownK_set (ownK_set (ownK_set hown (by simp; omega) _) (by simp; omega) _) (by simp; omega) _).mono (by omega), hcap, hcap2, ((hty.set _ _ (fun b off e => by have := hge b off e; simp; omega)).set _ _ (fun b off e => by have := hge b off e; simp; omega)).set _ _ (fun b off e => by have := hge b off e; simp; omega)⟩, hBf⟩
    | succ g =>
      have hlt : (k : Int) < H := by omega
      go_wp2
      have HB1 := Lib.hid hBr
      have HO1 := Lib.hid hOr
      have HR1 := Lib.hid hrow
      have HK := Lib.hid hk
      clear hBr hOr hrow d0 d1 d2
      go_loopg [5] W (fun g2 s5 wx => ∃ (i : Nat) (v : Value) (z : Int), i + g2 = W ∧ z + 1 + i = W ∧ s5 = .int .i64 z ∧ Below W0.heap.size W0 wx ∧ W0.heap.size + 1 ≤ wx.heap.size ∧ Sb wx W0.heap.size 45 (.int .i64 W) (.int .i64 H) v ∧ wx.ownsRow (W0.heap.size + 1) 23 1 v (gRows f W k ++ gRow f k i).length ((gRows f W k ++ gRow f k i).map (Value.int .u64)))
      case atStart => exact ⟨0, _, _, by omega, by omega, rfl, HB1.out, hsz, HO1.out, by simpa [gRow] using HR1.out⟩
      case round =>
        obtain ⟨i, v2, z, hi2, hz, rfl, hBr, hsz2, hOr, hrow⟩ := hrel
        cases gk with
        | zero =>
          have hlt2 : ¬ (0 : Int) ≤ z := by omega
          have hiN : i = W := by omega
          rw [hiN] at hrow
          go_wp2
          go_roundg g
          case measure => omega
          case rel => exact ⟨k + 1, _, by have := HK.out; omega, by go_num, hBr, hsz2, hOr, by rw [show gRows f W (k + 1) = gRows f W k ++ gRow f k W from Rc.rowsOf_succ _ _]; exact hrow⟩
        | succ g2 =>
          have hlt2 : (0 : Int) ≤ z := by omega
          obtain ⟨d0, d1, d2⟩ := (hD.out.later hBr).cells
          have hin : (Rc.insV z 1 W && Rc.insV (k : Int) 1 H) = true := by rw [Bool.and_eq_true, Rc.insV_iff, Rc.insV_iff]; have := HK.out; omega
          have hAt1 := Lib.hid (hAt.out z (k : Int) wr ((HS.out.below B.out).below hBr))
          have hzn : z.toNat = W - 1 - i := by omega
          have hval := Lib.hid (show Rc.atV W H L z (k : Int) = (f i k, true) by simp only [Rc.atV, hin, if_true]; rw [HF.out]; unfold Tu.atL; simp only [Int.toNat_natCast]; rw [hzn])
          rw [hval.out] at hAt1
          obtain ⟨u, HU⟩ : ∃ u, Hid (f i k = u) := ⟨_, rfl⟩
          rw [HU.out] at hAt1
          have hlen : (gRows f W k ++ gRow f k i).length ≤ 16777216 := by
            have h1 := HM.out
            have h2 := HN.out
            have h5 := HK.out
            rw [gRows_len] at h2
            rw [List.length_append, gRows_len, gRow_len]
            have h3 : (k + 1) * W ≤ H * W := Nat.mul_le_mul_right _ (by omega)
            rw [Nat.succ_mul] at h3
            omega
          obtain ⟨F, hF⟩ : ∃ F, gRows f W k ++ gRow f k i = F := ⟨_, rfl⟩
          rw [hF] at hrow hlen
          have HFF := Lib.hid hF
          clear hF hin hzn
          go_wp2_with (first
            | (go_at_call 56; refine hAt1.out.mono ?_; rintro e w9 ⟨rfl, hb9⟩; have hrow9 := ownsRow_later hrow hb9; have hOr9 := hOr.later hb9; have hBr9 := hBr.trans (hb9.mono hBr.size); have hsz9 := Nat.le_trans hsz2 hb9.size; obtain ⟨o0, o1, o2⟩ := hOr9.cells)
            | (at_builtin; refine wpList_append_own _ rfl _ _ 32 rfl (W0.heap.size + 1) 23 i0 (.int .u64 0) 1 8 Try.underlying32 hi hz0 hz1 hz2 rfl (by decide) v2 F.length _ rfl (hrow9.alloc _) ⟨w9.heap.size, 0, none⟩ 1 1 [.int .u64 u] rfl rfl (cell_one_new _ _ _) (by simp [Value.oneCell']) (by unfold maxLen; omega) (by omega) (by simp; omega) ?_; intro v' w1 hown' hgrow' _; obtain ⟨ad', cap', rfl⟩ := ownsRow_val hown'; obtain ⟨j1, j2, j3, j4, j5⟩ := pushL hOr9 hrow9 (Nat.lt_succ_self _) hsz9 hown' hgrow'; obtain ⟨r0, r1, r2⟩ := j1.cells; obtain ⟨r3, r4, r5⟩ := j1.fr))
          go_roundg g2
          case measure => omega
          case rel =>
            refine ⟨i + 1, _, z - 1, by omega, by omega, by go_num, hBr9.trans (j4 _ (Nat.le_refl _)), j5, j2, ?_⟩
            rw [gRow_succ, ← List.append_assoc, HFF.out, HU.out, List.map_append, List.length_append]
            exact j3
set_option maxRecDepth 100000 in
set_option maxHeartbeats 8000000 in
theorem refQuarter_ty (W H : Nat) (a : Option Addr) (c : Nat) (L : List Int) (hL : Rc.Ok W H L) (hc : L.length ≤ c) (hc2 : c ≤ 9223372036854775807) (w : World) (hs : SlK .u64 w a L.length L) :
    Calls Try.prog 43 #[.agg #[.int .i64 W, .int .i64 H, .slice a L.length c]] w fun e w' =>
      (∃ ad cap, e = .returned (.agg #[.int .i64 H, .int .i64 W, .slice ad (W * H) cap]) ∧ OwnK .u64 w.heap.size w' ad (Tu.quaL W H L) ∧ W * H ≤ cap ∧ cap ≤ 9223372036854775807 ∧ Px0 w' ad) ∧ Below w.heap.size w w' := by
  have hn := ok_len hL
  have hAt := Lib.hid (fun (X Y : Int) (W2 : World) h => refAt_any W H X Y a c L hL hc hc2 W2 h)
  have HS := Lib.hid hs
  have HL := Lib.hid hL
  have hW := hL.2.1
  have hH := hL.2.2.2.1
  have hLn : L.length = W * H := by rw [hL.2.2.2.2.2, Nat.mul_comm]; simp
  obtain ⟨f, hf⟩ : ∃ f : Nat → Nat → Int, (fun x y => Tu.atL L W y (H - 1 - x)) = f := ⟨_, rfl⟩
  have HF := Lib.hid (fun x y => (congrFun (congrFun hf x) y).symm)
  have HG := Lib.hid (show Tu.quaL W H L = gRows f H W by rw [← hf]; exact Tu.grid_rows ..)
  have HN := Lib.hid (show (gRows f H W).length = W * H by rw [gRows_len])
  have HM := Lib.hid (show W * H ≤ 16777216 by rw [← hLn]; exact hn)
  obtain ⟨n, hnn⟩ : ∃ n, L.length = n := ⟨_, rfl⟩
  rw [hnn] at hc hAt HS hn ⊢
  clear hf hL hs hnn hLn
  have hD := Lib.hid (show Sb ((w.alloc (.cells #[.int .i64 W, .int .i64 H, .slice a n c] 45)).alloc (.cells #[.int .i64 0, .int .i64 0, .slice none 0 0] 45)) w.heap.size 45 (.int .i64 W) (.int .i64 H) (.slice a n c) from (Sb.new _ _ _ _ _).alloc _)
  have hE := Lib.hid (show Sb ((w.alloc (.cells #[.int .i64 W, .int .i64 H, .slice a n c] 45)).alloc (.cells #[.int .i64 0, .int .i64 0, .slice none 0 0] 45)) (w.heap.size + 1) 45 (.int .i64 0) (.int .i64 0) (.slice none 0 0) from by simpa using Sb.new (w.alloc (.cells #[.int .i64 W, .int .i64 H, .slice a n c] 45)) 45 (.int .i64 0) (.int .i64 0) (.slice none 0 0))
  have B := Lib.hid (box2 w (.cells #[.int .i64 W, .int .i64 H, .slice a n c] 45) (.cells #[.int .i64 0, .int .i64 0, .slice none 0 0] 45))
  obtain ⟨i0, hi, hz0, hz1, hz2⟩ := info_parts Try.info_px
  go_enter Try.func43, Try.ntmps43
  go_wp2
  obtain ⟨W0, hW0⟩ : ∃ W0, (w.alloc (.cells #[.int .i64 W, .int .i64 H, .slice a n c] 45)).alloc (.cells #[.int .i64 0, .int .i64 0, .slice none 0 0] 45) = W0 := ⟨_, rfl⟩
  rw [hW0] at hD hE B ⊢
  have h0 : w.heap.size + 2 = W0.heap.size := by rw [← hW0]; simp
  have HO := Lib.hid (Sb.new W0 45 (.int .i64 H) (.int .i64 W) (.slice none 0 0))
  have HB0 := Lib.hid (box1 W0 (.cells #[.int .i64 H, .int .i64 W, .slice none 0 0] 45))
  simp only [show w.heap.size + 1 + 1 = W0.heap.size from h0]
  have H0 := Lib.hid h0
  clear hW0 h0
  go_loopg [4] W (fun g s4 wr => ∃ (k : Nat) (v : Value), k + g = W ∧ s4 = .int .i64 k ∧ Below W0.heap.size W0 wr ∧ W0.heap.size + 1 ≤ wr.heap.size ∧ Sb wr W0.heap.size 45 (.int .i64 H) (.int .i64 W) v ∧ wr.ownsRow (W0.heap.size + 1) 23 1 v (gRows f H k).length ((gRows f H k).map (Value.int .u64)))
  case atStart => exact ⟨0, _, by omega, rfl, HB0.out, by simp, HO.out, World.ownsRow_nil _ _ _ _⟩
  case round =>
    obtain ⟨k, v, hk, rfl, hBr, hsz, hOr, hrow⟩ := hrel
    obtain ⟨d0, d1, d2⟩ := (hD.out.later hBr).cells
    cases gk with
    | zero =>
      have hlt : ¬ (k : Int) < W := by omega
      have hkN : k = W := by omega
      rw [hkN] at hrow
      obtain ⟨ad, cap, rfl, hown, hcap⟩ := ownK_row rfl hrow
      have hcap2 := ownsRow_cap9 hrow
      have hty := px0_row hrow
      have hge := px0_ge hrow
      rw [HN.out] at hcap hOr
      obtain ⟨o0, o1, o2⟩ := hOr.cells
      have hE1 := hE.out.later hBr
      obtain ⟨e0, e1, e2⟩ := hE1.cells
      obtain ⟨f0, f1, f2⟩ := hE1.fr
      rw [← HG.out] at hown
      go_wp2
      have h0 := H0.out
      have R := hE1.put (.int .i64 H) (.int .i64 W) (.slice ad (W * H) cap)
      refine bodyPost_ret (ret_cell1 Try.results43 _ _ _ _ rfl (load_m R)) rfl ?_
      have hBf := (((bel_step (w := w) B.out hBr).setCell (p := ⟨w.heap.size + 1, 0, none⟩) (by simp) (.int .i64 H)).setCell (p := ⟨w.heap.size + 1, 1, none⟩) (by simp) (.int .i64 W)).setCell (p := ⟨w.heap.size + 1, 2, none⟩) (by simp) (.slice ad (W * H) cap)
      exact ⟨⟨ad, cap, rfl, (ownK_set (ownK_set (ownK_set hown (by simp; omega) _) (by simp; omega) _) (by simp; omega) _).mono (by omega), hcap, hcap2, ((hty.set _ _ (fun b off e => by have := hge b off e; simp; omega)).set _ _ (fun b off e => by have := hge b off e; simp; omega)).set _ _ (fun b off e => by have := hge b off e; simp; omega)⟩, hBf⟩
    | succ g =>
      have hlt : (k : Int) < W := by omega
      go_wp2
      have HB1 := Lib.hid hBr
      have HO1 := Lib.hid hOr
      have HR1 := Lib.hid hrow
      have HK := Lib.hid hk
      clear hBr hOr hrow d0 d1 d2
      go_loopg [5] H (fun g2 s5 wx => ∃ (i : Nat) (v : Value) (z : Int), i + g2 = H ∧ z + 1 + i = H ∧ s5 = .int .i64 z ∧ Below W0.heap.size W0 wx ∧ W0.heap.size + 1 ≤ wx.heap.size ∧ Sb wx W0.heap.size 45 (.int .i64 H) (.int .i64 W) v ∧ wx.ownsRow (W0.heap.size + 1) 23 1 v (gRows f H k ++ gRow f k i).length ((gRows f H k ++ gRow f k i).map (Value.int .u64)))
      case atStart => exact ⟨0, _, _, by omega, by omega, rfl, HB1.out, hsz, HO1.out, by simpa [gRow] using HR1.out⟩
      case round =>
        obtain ⟨i, v2, z, hi2, hz, rfl, hBr, hsz2, hOr, hrow⟩ := hrel
        cases gk with
        | zero =>
          have hlt2 : ¬ (0 : Int) ≤ z := by omega
          have hiN : i = H := by omega
          rw [hiN] at hrow
          go_wp2
          go_roundg g
          case measure => omega
          case rel => exact ⟨k + 1, _, by have := HK.out; omega, by go_num, hBr, hsz2, hOr, by rw [show gRows f H (k + 1) = gRows f H k ++ gRow f k H from Rc.rowsOf_succ _ _]; exact hrow⟩
        | succ g2 =>
          have hlt2 : (0 : Int) ≤ z := by omega
          obtain ⟨d0, d1, d2⟩ := (hD.out.later hBr).cells
          have hin : (Rc.insV (k : Int) 1 W && Rc.insV z 1 H) = true := by rw [Bool.and_eq_true, Rc.insV_iff, Rc.insV_iff]; have := HK.out; omega
          have hAt1 := Lib.hid (hAt.out (k : Int) z wr ((HS.out.below B.out).below hBr))
          have hzn : z.toNat = H - 1 - i := by omega
          have hval := Lib.hid (show Rc.atV W H L (k : Int) z = (f i k, true) by simp only [Rc.atV, hin, if_true]; rw [HF.out]; unfold Tu.atL; simp only [Int.toNat_natCast]; rw [hzn])
          rw [hval.out] at hAt1
          obtain ⟨u, HU⟩ : ∃ u, Hid (f i k = u) := ⟨_, rfl⟩
          rw [HU.out] at hAt1
          have hlen : (gRows f H k ++ gRow f k i).length ≤ 16777216 := by
            have h1 := HM.out
            have h2 := HN.out
            have h5 := HK.out
            rw [gRows_len] at h2
            rw [List.length_append, gRows_len, gRow_len]
            have h3 : (k + 1) * H ≤ W * H := Nat.mul_le_mul_right _ (by omega)
            rw [Nat.succ_mul] at h3
            omega
          obtain ⟨F, hF⟩ : ∃ F, gRows f H k ++ gRow f k i = F := ⟨_, rfl⟩
          rw [hF] at hrow hlen
          have HFF := Lib.hid hF
          clear hF hin hzn
          go_wp2_with (first
            | (go_at_call 56; refine hAt1.out.mono ?_; rintro e w9 ⟨rfl, hb9⟩; have hrow9 := ownsRow_later hrow hb9; have hOr9 := hOr.later hb9; have hBr9 := hBr.trans (hb9.mono hBr.size); have hsz9 := Nat.le_trans hsz2 hb9.size; obtain ⟨o0, o1, o2⟩ := hOr9.cells)
            | (at_builtin; refine wpList_append_own _ rfl _ _ 32 rfl (W0.heap.size + 1) 23 i0 (.int .u64 0) 1 8 Try.underlying32 hi hz0 hz1 hz2 rfl (by decide) v2 F.length _ rfl (hrow9.alloc _) ⟨w9.heap.size, 0, none⟩ 1 1 [.int .u64 u] rfl rfl (cell_one_new _ _ _) (by simp [Value.oneCell']) (by unfold maxLen; omega) (by omega) (by simp; omega) ?_; intro v' w1 hown' hgrow' _; obtain ⟨ad', cap', rfl⟩ := ownsRow_val hown'; obtain ⟨j1, j2, j3, j4, j5⟩ := pushL hOr9 hrow9 (Nat.lt_succ_self _) hsz9 hown' hgrow'; obtain ⟨r0, r1, r2⟩ := j1.cells; obtain ⟨r3, r4, r5⟩ := j1.fr))
          go_roundg g2
          case measure => omega
          case rel =>
            refine ⟨i + 1, _, z - 1, by omega, by omega, by go_num, hBr9.trans (j4 _ (Nat.le_refl _)), j5, j2, ?_⟩
            rw [gRow_succ, ← List.append_assoc, HFF.out, HU.out, List.map_append, List.length_append]
            exact j3
end Go.Proofs.Ytmlinoanpcbflaa

/- A part, whether and where a matrix stands in another one, by the document. Condition: the matrices may be. -/
import Derived.Test.YtmnhiagppicegaaGreatZgAA
namespace Go.Proofs.YtmnhiagppicegaaGreat
open Go.RowKit
set_option linter.unusedVariables false

set_option maxRecDepth 100000 in
set_option maxHeartbeats 4000000 in
theorem refSub_no (W H x y p q : Int) (a : Option Addr) (c : Nat) (L : List Int) (hL : Rc.Ok W H L) (hx : (Rc.insV x p W && Rc.insV y q H) = false) (w : World) :
    Calls Tryz.prog 154 #[.agg #[.int .i64 W, .int .i64 H, .slice a L.length c], .int .i64 x, .int .i64 y, .int .i64 p, .int .i64 q] w fun e w' => e = .returned (.tuple #[.agg #[.int .i64 0, .int .i64 0, .slice none 0 0], .bool false]) ∧ Below w.heap.size w w' := by
  have hn := ok_len hL
  obtain ⟨h1, h2, h3, h4, _⟩ := hL
  have hno : ¬ (0 ≤ x ∧ 1 ≤ p ∧ p ≤ W ∧ x ≤ W - p ∧ 0 ≤ y ∧ 1 ≤ q ∧ q ≤ H ∧ y ≤ H - q) := fun h => by
    have e1 : Rc.insV x p W = true := by rw [Rc.insV_iff]; omega
    have e2 : Rc.insV y q H = true := by rw [Rc.insV_iff]; omega
    rw [e1, e2] at hx; simp at hx
  clear hx
  by_cases c1 : x < 0
  · clear hno
    go_enter Tryz.func154, Tryz.ntmps154
    go_wp2
    go_returns
    exact ⟨rfl, by go_grown⟩
  by_cases c2 : y < 0
  · clear hno
    go_enter Tryz.func154, Tryz.ntmps154
    go_wp2
    go_returns
    exact ⟨rfl, by go_grown⟩
  by_cases c3 : p < 1
  · clear hno
    go_enter Tryz.func154, Tryz.ntmps154
    go_wp2
    go_returns
    exact ⟨rfl, by go_grown⟩
  by_cases c4 : q < 1
  · clear hno
    go_enter Tryz.func154, Tryz.ntmps154
    go_wp2
    go_returns
    exact ⟨rfl, by go_grown⟩
  by_cases c5 : W < x
  · clear hno
    go_enter Tryz.func154, Tryz.ntmps154
    go_wp2
    go_returns
    exact ⟨rfl, by go_grown⟩
  by_cases c6 : H < y
  · clear hno
    go_enter Tryz.func154, Tryz.ntmps154
    go_wp2
    go_returns
    exact ⟨rfl, by go_grown⟩
  have k7 : wrap64 (W - x) = W - x := by rw [IntWalk.wrap64_in] <;> omega
  have k8 : wrap64 (H - y) = H - y := by rw [IntWalk.wrap64_in] <;> omega
  by_cases c7 : W - x < p
  · clear hno
    go_enter Tryz.func154, Tryz.ntmps154
    go_wp2
    go_returns
    exact ⟨rfl, by go_grown⟩
  by_cases c8 : H - y < q
  · clear hno
    go_enter Tryz.func154, Tryz.ntmps154
    go_wp2
    go_returns
    exact ⟨rfl, by go_grown⟩
  exact (hno (by omega)).elim
set_option maxRecDepth 100000 in
set_option maxHeartbeats 4000000 in
theorem refHas_any (W H w0 h0 x y : Int) (a a2 : Option Addr) (c c2 : Nat) (L M : List Int) (hL : Rc.Ok W H L) (hM : Rc.Ok w0 h0 M) (hc : L.length ≤ c) (hcm : c ≤ 9223372036854775807) (hd : M.length ≤ c2) (hdm : c2 ≤ 9223372036854775807) (w : World)
    (hs : SlK .u64 w a L.length L) (hs2 : SlK .u64 w a2 M.length M) :
    Calls Tryz.prog 112 #[.agg #[.int .i64 W, .int .i64 H, .slice a L.length c], .agg #[.int .i64 w0, .int .i64 h0, .slice a2 M.length c2], .int .i64 x, .int .i64 y] w fun e w' => e = .returned (.bool (Rc.hasV W H L w0 h0 M x y)) ∧ Below w.heap.size w w' := by
  have B := box2 w (.cells #[.int .i64 W, .int .i64 H, .slice a L.length c] 31) (.cells #[.int .i64 w0, .int .i64 h0, .slice a2 M.length c2] 31)
  have hD := Lib.hid (show Sb ((w.alloc (.cells #[.int .i64 W, .int .i64 H, .slice a L.length c] 31)).alloc (.cells #[.int .i64 w0, .int .i64 h0, .slice a2 M.length c2] 31)) (w.heap.size + 1) 31 (.int .i64 w0) (.int .i64 h0) (.slice a2 M.length c2) from by simpa using Sb.new (w.alloc (.cells #[.int .i64 W, .int .i64 H, .slice a L.length c] 31)) 31 (.int .i64 w0) (.int .i64 h0) (.slice a2 M.length c2))
  have HS := Lib.hid (hs.below B)
  have HS2 := Lib.hid (hs2.below B)
  have hn := ok_len hL
  have hn2 := ok_len hM
  cases hx : (Rc.insV x w0 W && Rc.insV y h0 H)
  · have X := Lib.hid (show Rc.hasV W H L w0 h0 M x y = false by unfold Rc.hasV; rw [hx]; rfl)
    have hSu := Lib.hid (fun W2 => refSub_no W H x y w0 h0 a c L hL hx W2)
    clear hL hM hs hs2
    go_enter Tryz.func112, Tryz.ntmps112
    go_wp2_with (go_at_call 154; refine (hSu.out _).mono ?_; rintro e w9 ⟨rfl, hb9⟩; have B9 := bel_step B hb9)
    go_ret
    exact ⟨ret_bR X.out.symm, bel_step B9 (box1 _ _)⟩
  · obtain ⟨k1, k2⟩ : Rc.insV x w0 W = true ∧ Rc.insV y h0 H = true := by simpa using hx
    have X := Lib.hid (show Rc.hasV W H L w0 h0 M x y = (decide (w0 = w0) && (decide (h0 = h0) && decide (Rc.subL L W x y w0 h0 = M))) by unfold Rc.hasV; rw [hx]; simp)
    have hl := ok_len (Rc.sub_ok hL k1 k2)
    have hSu := Lib.hid (fun W2 h => refSub_yes W H x y w0 h0 a c L hL hc hcm k1 k2 W2 h)
    obtain ⟨P, hP⟩ : ∃ P, Rc.subL L W x y w0 h0 = P := ⟨_, rfl⟩
    rw [hP] at X hSu hl
    clear hL hM hs hs2 hP
    go_enter Tryz.func112, Tryz.ntmps112
    go_wp2_with (first
      | (go_at_call 154; refine (hSu.out _ HS.out).mono ?_; rintro e w9 ⟨⟨ad, cap, rfl, ho, hcap, hcap2⟩, hb9⟩; have B9 := bel_step (bel_step B hb9) (box1 w9 (.cells #[.int .i64 w0, .int .i64 h0, .slice ad P.length cap] 31)); have HO := Lib.hid ((ho.later (box1 w9 (.cells #[.int .i64 w0, .int .i64 h0, .slice ad P.length cap] 31))).sl); have HS9 := Lib.hid ((HS2.out.below hb9).below (box1 w9 (.cells #[.int .i64 w0, .int .i64 h0, .slice ad P.length cap] 31))); obtain ⟨d0, d1, d2⟩ := ((hD.out.later hb9).alloc (.cells #[.int .i64 w0, .int .i64 h0, .slice ad P.length cap] 31)).cells; clear ho hb9)
      | (go_at_call 60; refine (refSame_any w0 h0 w0 h0 ad a2 P.length M.length cap c2 P M _ (by omega) HO.out HS9.out).mono ?_; rintro e w10 ⟨rfl, hb10⟩; have B10 := bel_step B9 hb10))
    go_ret
    exact ⟨ret_bR X.out.symm, B10⟩
def fRow (W H : Int) (L : List Int) (w h : Int) (M : List Int) (y x : Nat) : List (Int × Int) :=
  (List.range x).flatMap fun (x : Nat) => if Rc.hasV W H L w h M (x : Int) (y : Int) = true then [((x : Int), (y : Int))] else []
def fRows (W H : Int) (L : List Int) (w h : Int) (M : List Int) (y : Nat) : List (Int × Int) := (List.range y).flatMap fun (y : Nat) => fRow W H L w h M y W.toNat
theorem fRow_le (W H : Int) (L : List Int) (w h : Int) (M : List Int) (y x : Nat) : (fRow W H L w h M y x).length ≤ x := by
  have := flat_le (n := x) (f := fun (x : Nat) => if Rc.hasV W H L w h M (x : Int) (y : Int) = true then [((x : Int), (y : Int))] else []) (m := 1) (fun k => by split <;> simp)
  simpa [fRow] using this
theorem fRows_le (W H : Int) (L : List Int) (w h : Int) (M : List Int) (y : Nat) : (fRows W H L w h M y).length ≤ y * W.toNat := flat_le (fun k => fRow_le ..)
theorem fRow_yes {W H : Int} {L : List Int} {w h : Int} {M : List Int} {y x : Nat} (e : Rc.hasV W H L w h M x y = true) : fRow W H L w h M y (x + 1) = fRow W H L w h M y x ++ [((x : Int), (y : Int))] := by
  unfold fRow; rw [flat_succ]; simp [e]
theorem fRow_no {W H : Int} {L : List Int} {w h : Int} {M : List Int} {y x : Nat} (e : Rc.hasV W H L w h M x y = false) : fRow W H L w h M y (x + 1) = fRow W H L w h M y x := by
  unfold fRow; rw [flat_succ]; simp [e]
set_option maxRecDepth 100000 in
set_option maxHeartbeats 8000000 in
theorem refFind_any (W H w0 h0 : Int) (a a2 : Option Addr) (c c2 : Nat) (L M : List Int) (hL : Rc.Ok W H L) (hM : Rc.Ok w0 h0 M) (hc : L.length ≤ c) (hcm : c ≤ 9223372036854775807) (hd : M.length ≤ c2) (hdm : c2 ≤ 9223372036854775807) (w : World)
    (hs : SlK .u64 w a L.length L) (hs2 : SlK .u64 w a2 M.length M) :
    Calls Tryz.prog 67 #[.agg #[.int .i64 W, .int .i64 H, .slice a L.length c], .agg #[.int .i64 w0, .int .i64 h0, .slice a2 M.length c2]] w fun e w' =>
      ∃ v, e = .returned v ∧ w'.ownsRow w.heap.size 174 2 v (Rc.findV W H L w0 h0 M).length (pairs (Rc.findV W H L w0 h0 M)) ∧ Below w.heap.size w w' := by
  have hW := hL.2.1
  have hH := hL.2.2.2.1
  have hW1 := hL.1
  have hH1 := hL.2.2.1
  obtain ⟨W0, hW0⟩ : ∃ W0, (w.alloc (.cells #[.int .i64 W, .int .i64 H, .slice a L.length c] 31)).alloc (.cells #[.int .i64 w0, .int .i64 h0, .slice a2 M.length c2] 31) = W0 := ⟨_, rfl⟩
  have B := box2 w (.cells #[.int .i64 W, .int .i64 H, .slice a L.length c] 31) (.cells #[.int .i64 w0, .int .i64 h0, .slice a2 M.length c2] 31)
  have D : Sb ((w.alloc (.cells #[.int .i64 W, .int .i64 H, .slice a L.length c] 31)).alloc (.cells #[.int .i64 w0, .int .i64 h0, .slice a2 M.length c2] 31)) w.heap.size 31 (.int .i64 W) (.int .i64 H) (.slice a L.length c) := (Sb.new _ _ _ _ _).alloc _
  have E : Sb ((w.alloc (.cells #[.int .i64 W, .int .i64 H, .slice a L.length c] 31)).alloc (.cells #[.int .i64 w0, .int .i64 h0, .slice a2 M.length c2] 31)) (w.heap.size + 1) 31 (.int .i64 w0) (.int .i64 h0) (.slice a2 M.length c2) := by simpa using Sb.new (w.alloc (.cells #[.int .i64 W, .int .i64 H, .slice a L.length c] 31)) 31 (.int .i64 w0) (.int .i64 h0) (.slice a2 M.length c2)
  rw [hW0] at B D E
  have HB := Lib.hid B
  have HD := Lib.hid D
  have HE := Lib.hid E
  have HS := Lib.hid (hs.below B)
  have HS2 := Lib.hid (hs2.below B)
  have hHas := Lib.hid (fun (x y : Int) W2 h1 h2 => refHas_any W H w0 h0 x y a a2 c c2 L M hL hM hc hcm hd hdm W2 h1 h2)
  rw [show Rc.findV W H L w0 h0 M = fRows W H L w0 h0 M H.toNat from rfl]
  obtain ⟨i0, hi, hz0, hz1, hz2⟩ := info_parts Tryz.info_pair
  have hBW : w.heap.size ≤ W0.heap.size := B.size
  go_enter Tryz.func67, Tryz.ntmps67
  go_wp2
  clear hW0 B D E hs hs2 hL hM
  go_loopg [5, 6] H.toNat (fun g s5 s6 wr => ∃ y : Nat, y + g = H.toNat ∧ s6 = .int .i64 y ∧ Below W0.heap.size W0 wr ∧ wr.ownsRow W0.heap.size 174 2 s5 (fRows W H L w0 h0 M y).length (pairs (fRows W H L w0 h0 M y)))
  case atStart => exact ⟨0, by omega, rfl, Below.refl _ _, World.ownsRow_nil _ _ _ _⟩
  case round =>
    obtain ⟨y, hy, rfl, hBr, hrow⟩ := hrel
    obtain ⟨d0, d1, d2⟩ := (HD.out.later hBr).cells
    cases gk with
    | zero =>
      have hlt : ¬ (y : Int) < H := by omega
      obtain rfl : y = H.toNat := by omega
      go_wp2
      go_ret
      exact ⟨_, rfl, ownsRow_base hrow hBW, bel_step HB.out hBr⟩
    | succ g =>
      have hlt : (y : Int) < H := by omega
      go_wp2
      have HB1 := Lib.hid hBr
      have HR1 := Lib.hid hrow
      have HY := Lib.hid hy
      clear hBr hrow d0 d1 d2
      go_loopg [5, 7] W.toNat (fun g2 s5 s7 wx => ∃ x : Nat, x + g2 = W.toNat ∧ s7 = .int .i64 x ∧ Below W0.heap.size W0 wx ∧ wx.ownsRow W0.heap.size 174 2 s5 (fRows W H L w0 h0 M y ++ fRow W H L w0 h0 M y x).length (pairs (fRows W H L w0 h0 M y ++ fRow W H L w0 h0 M y x)))
      case atStart => exact ⟨0, by omega, rfl, HB1.out, by simpa [fRow] using HR1.out⟩
      case round =>
        obtain ⟨x, hx, rfl, hBr, hrow⟩ := hrel
        obtain ⟨d0, d1, d2⟩ := (HD.out.later hBr).cells
        obtain ⟨e0, e1, e2⟩ := (HE.out.later hBr).cells
        cases gk with
        | zero =>
          have hlt2 : ¬ (x : Int) < W := by omega
          obtain rfl : x = W.toNat := by omega
          go_wp2
          go_roundg g
          case measure => omega
          case rel => exact ⟨y + 1, by have := HY.out; omega, by go_num, hBr, by rw [show fRows W H L w0 h0 M (y + 1) = fRows W H L w0 h0 M y ++ fRow W H L w0 h0 M y W.toNat from flat_succ _ _]; exact hrow⟩
        | succ g2 =>
          have hlt2 : (x : Int) < W := by omega
          have hH1 := Lib.hid (hHas.out x y wr (HS.out.below hBr) (HS2.out.below hBr))
          have hlen : (fRows W H L w0 h0 M y ++ fRow W H L w0 h0 M y x).length ≤ 268439552 := by
            have h1 := fRows_le W H L w0 h0 M y
            have h2 := fRow_le W H L w0 h0 M y x
            have h3 : y * W.toNat ≤ 65536 * 4096 := Nat.mul_le_mul (by have := HY.out; omega) (by omega)
            rw [List.length_append]; omega
          obtain ⟨F, hF⟩ : ∃ F, fRows W H L w0 h0 M y ++ fRow W H L w0 h0 M y x = F := ⟨_, rfl⟩
          rw [hF] at hrow hlen
          have HF := Lib.hid hF
          clear hF
          cases hv : Rc.hasV W H L w0 h0 M x y
          · rw [hv] at hH1
            have HV := Lib.hid hv
            clear hv
            go_wp2_with (go_at_call 112; refine hH1.out.mono ?_; rintro e w9 ⟨rfl, hb9⟩; have hrow9 := ownsRow_later hrow hb9; have hBr9 := hBr.trans (hb9.mono hBr.size))
            go_roundg g2
            case measure => omega
            case rel => exact ⟨x + 1, by omega, by go_num, hBr9, by rw [fRow_no HV.out, HF.out]; exact hrow9⟩
          · rw [hv] at hH1
            have HV := Lib.hid hv
            clear hv
            go_wp2_with (first
              | (go_at_call 112; refine hH1.out.mono ?_; rintro e w9 ⟨rfl, hb9⟩; have hrow9 := ownsRow_later hrow hb9; have hBr9 := hBr.trans (hb9.mono hBr.size); have hsz9 := hBr9.size)
              | (at_builtin; refine wpList_append_own _ rfl _ _ 66 rfl W0.heap.size 174 i0 (.agg #[.int .i64 0, .int .i64 0]) 2 16 Tryz.underlying66 hi hz0 hz1 hz2 rfl (by decide) _ F.length (pairs F) rfl (hrow9.alloc _) ⟨w9.heap.size, 0, none⟩ 1 1 [.int .i64 x, .int .i64 y] rfl rfl (pair_new _ _ _ _) (one_pair _ _) (by unfold maxLen; omega) (by omega) (by simp; omega) ?_; intro v' w1 hown' hgrow' _))
            have hB4 := ((Below.refl W0.heap.size w9).alloc hsz9 (.cells #[.int .i64 x, .int .i64 y] 174)).grown hgrow' (by simp; omega) (fun jb ej => (hrow9.lt jb ej).1)
            go_roundg g2
            case measure => omega
            case rel =>
              refine ⟨x + 1, by omega, by go_num, hBr9.trans hB4, ?_⟩
              rw [fRow_yes HV.out, ← List.append_assoc, HF.out, pairs_append, pairs_one, List.length_append]
              exact hown'
end Go.Proofs.YtmnhiagppicegaaGreat

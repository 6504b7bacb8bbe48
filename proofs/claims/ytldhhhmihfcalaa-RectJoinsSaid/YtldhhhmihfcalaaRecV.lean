/- A row and a column by the document, whatever place is told, over any memory. Condition: the matrix may be. -/
import Derived.Test.YtldhhhmihfcalaaRecNA
namespace Go.Proofs.Ytldhhhmihfcalaa
open Go.RowKit
set_option linter.unusedVariables false

/-- a row of numbers of the call's own -/
def LineR (xs : List Int) (w : World) (e : Ending) (w' : World) : Prop := ∃ ad cap, e = .returned (.slice ad xs.length cap) ∧ OwnK .u64 w.heap.size w' ad xs ∧ xs.length ≤ cap ∧ cap ≤ 9223372036854775807 ∧ Below w.heap.size w w'
/-- so many numbers, or none -/
def lineK (b : Bool) (f : Nat → Int) (k : Nat) : List Int := if b = true then (List.range k).map f else []
theorem lineK_zero (b : Bool) (f : Nat → Int) : lineK b f 0 = [] := by unfold lineK; split <;> rfl
theorem lineK_len (b : Bool) (f : Nat → Int) (k : Nat) : (lineK b f k).length ≤ k := by unfold lineK; split <;> simp
theorem lineK_t (f : Nat → Int) (k : Nat) : (lineK true f k).map (Value.int .u64) ++ [.int .u64 (f k)] = (lineK true f (k + 1)).map (Value.int .u64) := by simp [lineK, List.range_succ]
theorem lineK_tl (f : Nat → Int) (k : Nat) : (lineK true f (k + 1)).length = (lineK true f k).length + 1 := by simp [lineK]
theorem lineK_f (f : Nat → Int) (k : Nat) : lineK false f k = [] := rfl
set_option maxRecDepth 100000 in
set_option maxHeartbeats 4000000 in
theorem refRow_any (W H y : Int) (a : Option Addr) (c : Nat) (L : List Int) (hL : Rc.Ok W H L) (hc : L.length ≤ c) (hc2 : c ≤ 9223372036854775807) (w : World) (hs : SlK .u64 w a L.length L) :
    Calls Try.prog 61 #[.agg #[.int .i64 W, .int .i64 H, .slice a L.length c], .int .i64 y] w (LineR (lineK (Rc.insV y 1 H) (fun i : Nat => L.getD (y.toNat * W.toNat + i) 0) W.toNat) w) := by
  obtain ⟨o1, o2, o3, o4, o5, o6⟩ := hL
  have HOK := Lib.hid (show Rc.Ok W H L from ⟨o1, o2, o3, o4, o5, o6⟩)
  have hn := ok_len HOK.out
  have hAt := Lib.hid (fun (X Y : Int) (W2 : World) h => refAt_any W H X Y a c L HOK.out hc hc2 W2 h)
  obtain ⟨i0, hi, hz0, hz1, hz2⟩ := info_parts Try.info_px
  have HS := Lib.hid hs
  obtain ⟨n, hnn⟩ : ∃ n, L.length = n := ⟨_, rfl⟩
  rw [hnn] at hc hAt HS hn ⊢
  have hD := Lib.hid (Sb.new w 24 (.int .i64 W) (.int .i64 H) (.slice a n c))
  have hB0 := Lib.hid (box1 w (.cells #[.int .i64 W, .int .i64 H, .slice a n c] 24))
  obtain ⟨f, hf⟩ : ∃ f : Nat → Int, (fun i : Nat => L.getD (y.toNat * W.toNat + i) 0) = f := ⟨_, rfl⟩
  rw [hf]
  have HF := Lib.hid hf
  clear hnn hs o5 o6 hf
  cases hb : (Rc.insV y 1 H)
  · skip
    have HBB := Lib.hid hb
    clear hb
    go_enter Try.func61, Try.ntmps61
    go_wp2
    obtain ⟨W0, hW0⟩ : ∃ W0, w.alloc (.cells #[.int .i64 W, .int .i64 H, .slice a n c] 24) = W0 := ⟨_, rfl⟩
    have hDD := hD.out; have hBB := hB0.out
    rw [hW0] at hDD hBB ⊢
    have HD := Lib.hid hDD; have HB0 := Lib.hid hBB
    clear hDD hBB hW0 hD hB0
    have HB1 := Lib.hid (Below.refl W0.heap.size W0)
    go_loopg [5, 6] W.toNat (fun g s5 s6 wr => ∃ k : Nat, k + g = W.toNat ∧ s6 = .int .i64 k ∧ wr.ownsRow W0.heap.size 88 1 s5 (lineK false f k).length ((lineK false f k).map (Value.int .u64)) ∧ Below W0.heap.size W0 wr)
    case atStart => exact ⟨0, by omega, rfl, by rw [lineK_zero]; exact World.ownsRow_nil _ _ _ _, HB1.out⟩
    case round =>
      obtain ⟨k, hk, rfl, hrow, hB⟩ := hrel
      have k0 : (0 : Int) ≤ k := Int.natCast_nonneg _
      have hE1 := HD.out.later hB
      obtain ⟨e0, e1, e2⟩ := hE1.cells
      have hW := hB.size
      cases gk with
      | zero =>
        have hlt : ¬ (k : Int) < W := by omega
        have HK := Lib.hid (show k = W.toNat by omega)
        obtain ⟨ad, cap', rfl, hown, hcap⟩ := ownK_row rfl hrow
        have HO := Lib.hid hown
        have HC9 := Lib.hid (ownsRow_cap9 hrow)
        clear hrow hown
        go_wp2
        go_ret
        rw [← HK.out]
        exact ⟨ad, cap', rfl, HO.out.mono (by have := HB0.out.size; omega), hcap, HC9.out, bel_step HB0.out hB⟩
      | succ g =>
        have hlt : (k : Int) < W := by omega
        have hatv : Rc.atV W H L k y = (if false then (f k, true) else (0, false)) := by
          unfold Rc.atV
          rw [show Rc.insV k 1 W = true from Rc.insV_iff.2 ⟨by omega, by omega, by omega, by omega⟩, HBB.out, ← HF.out]
          first | rfl | simp
        have HAV := Lib.hid hatv
        have hln := lineK_len false f k
        have HRW := Lib.hid hrow
        clear hatv hrow
        have HAV2 := Lib.hid (show Rc.atV W H L k y = (0, false) by rw [HAV.out]; rfl)
        go_wp2_with (go_at_call 98; refine (hAt.out _ _ _ (HS.out.below (bel_step HB0.out hB))).mono ?_; rw [HAV2.out]; rintro e w5 ⟨rfl, hb5⟩; have hB5 := bel_step hB hb5; have HR5 := Lib.hid (ownsRow_later HRW.out hb5); clear hb5)
        go_roundg g
        case measure => omega
        case rel => exact ⟨k + 1, by omega, by go_num, by rw [lineK_f] at *; exact HR5.out, hB5⟩
  · skip
    have HBB := Lib.hid hb
    clear hb
    go_enter Try.func61, Try.ntmps61
    go_wp2
    obtain ⟨W0, hW0⟩ : ∃ W0, w.alloc (.cells #[.int .i64 W, .int .i64 H, .slice a n c] 24) = W0 := ⟨_, rfl⟩
    have hDD := hD.out; have hBB := hB0.out
    rw [hW0] at hDD hBB ⊢
    have HD := Lib.hid hDD; have HB0 := Lib.hid hBB
    clear hDD hBB hW0 hD hB0
    have HB1 := Lib.hid (Below.refl W0.heap.size W0)
    go_loopg [5, 6] W.toNat (fun g s5 s6 wr => ∃ k : Nat, k + g = W.toNat ∧ s6 = .int .i64 k ∧ wr.ownsRow W0.heap.size 88 1 s5 (lineK true f k).length ((lineK true f k).map (Value.int .u64)) ∧ Below W0.heap.size W0 wr)
    case atStart => exact ⟨0, by omega, rfl, by rw [lineK_zero]; exact World.ownsRow_nil _ _ _ _, HB1.out⟩
    case round =>
      obtain ⟨k, hk, rfl, hrow, hB⟩ := hrel
      have k0 : (0 : Int) ≤ k := Int.natCast_nonneg _
      have hE1 := HD.out.later hB
      obtain ⟨e0, e1, e2⟩ := hE1.cells
      have hW := hB.size
      cases gk with
      | zero =>
        have hlt : ¬ (k : Int) < W := by omega
        have HK := Lib.hid (show k = W.toNat by omega)
        obtain ⟨ad, cap', rfl, hown, hcap⟩ := ownK_row rfl hrow
        have HO := Lib.hid hown
        have HC9 := Lib.hid (ownsRow_cap9 hrow)
        clear hrow hown
        go_wp2
        go_ret
        rw [← HK.out]
        exact ⟨ad, cap', rfl, HO.out.mono (by have := HB0.out.size; omega), hcap, HC9.out, bel_step HB0.out hB⟩
      | succ g =>
        have hlt : (k : Int) < W := by omega
        have hatv : Rc.atV W H L k y = (if true then (f k, true) else (0, false)) := by
          unfold Rc.atV
          rw [show Rc.insV k 1 W = true from Rc.insV_iff.2 ⟨by omega, by omega, by omega, by omega⟩, HBB.out, ← HF.out]
          first | rfl | simp
        have HAV := Lib.hid hatv
        have hln := lineK_len true f k
        have HRW := Lib.hid hrow
        clear hatv hrow
        have HFK := Lib.hid (rfl : f k = f k)
        obtain ⟨v, hv⟩ : ∃ v, f k = v := ⟨_, rfl⟩
        have HV := Lib.hid hv
        have HAV2 := Lib.hid (show Rc.atV W H L k y = (v, true) by rw [HAV.out, hv]; rfl)
        have hlt2 := lineK_t f k
        rw [hv] at hlt2
        have HT := Lib.hid hlt2
        obtain ⟨q, hq⟩ : ∃ q, (lineK true f k).length = q := ⟨_, rfl⟩
        rw [hq] at HRW hln
        have HQ := Lib.hid hq
        clear hv hlt2 hq HFK
        go_wp2_with (first
          | (go_at_call 98; refine (hAt.out _ _ _ (HS.out.below (bel_step HB0.out hB))).mono ?_; rw [HAV2.out]; rintro e w5 ⟨rfl, hb5⟩; have hB5 := bel_step hB hb5; have hW5 := hB5.size; have HR5 := Lib.hid (ownsRow_later HRW.out hb5); clear hb5)
          | (at_builtin; refine wpList_append_own _ rfl _ _ 22 rfl W0.heap.size 88 i0 (.int .u64 0) 1 8 Try.underlying22 hi hz0 hz1 hz2 rfl (by decide) _ q _ rfl (HR5.out.alloc _) ⟨w5.heap.size, 0, none⟩ 1 1 [.int .u64 v] rfl rfl (cell_one_new _ _ _) (by simp [Value.oneCell']) (by unfold maxLen; omega) (by omega) (by simp; omega) ?_; intro v' w6 hown' hgrow _; have HO := Lib.hid hown'; have hB6 := ((hB5.alloc hW5 _).grown hgrow (by simp; omega) (fun j ej => (HR5.out.lt j ej).1)); clear hown' hgrow))
        go_roundg g
        case measure => omega
        case rel =>
          have hr := HO.out
          rw [HT.out] at hr
          exact ⟨k + 1, by omega, by go_num, by rw [lineK_tl, HQ.out]; exact hr, hB6⟩
end Go.Proofs.Ytldhhhmihfcalaa

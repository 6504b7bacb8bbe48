/- A row's pixels, how many are 1, and its spare bits, over any memory, of bits. Condition: numbers fit their kinds. -/
import Derived.Test.YtjjpnipcpnkakaaBtE
namespace Go.Proofs.Ytjjpnipcpnkakaa
open Go.RowKit Go.Shelf
attribute [local go_sem] Oper.semAt_some
set_option linter.unusedVariables false
namespace Bt
/-- What is known of bytes that come in: a slice of them, each a byte. -/
def Bs (w : World) (a : Option Addr) (len cap : Nat) (zs : List Int) : Prop := SlK .u8 w a len zs ∧ len ≤ cap ∧ cap ≤ 9223372036854775807 ∧ ∀ z ∈ zs, 0 ≤ z ∧ z ≤ 255
theorem Bs.below {w w' : World} {a : Option Addr} {len cap : Nat} {zs : List Int} (h : Bs w a len cap zs) (hb : Below w.heap.size w w') : Bs w' a len cap zs := ⟨h.1.below hb, h.2⟩
theorem bytesV_pos {n : Nat} {W : Int} (h : rowE n W = 0) : ∃ N P : Nat, W = P ∧ bytesV W = N ∧ 1 ≤ N ∧ N ≤ n ∧ N ≤ 4096 ∧ P ≤ 8 * N ∧ 8 * N < P + 8 := by
  unfold rowE at h
  by_cases h0 : bytesV W = 0
  · rw [if_pos h0] at h; cases h
  · rw [if_neg h0] at h
    by_cases h1 : (n : Int) < bytesV W
    · rw [if_pos h1] at h; cases h
    · unfold bytesV at h0 h1 ⊢
      by_cases h2 : W < 1 ∨ 4096 < W
      · rw [if_pos h2] at h0; exact absurd rfl h0
      · rw [if_neg h2] at h1 ⊢
        exact ⟨((W + 7) / 8).toNat, W.toNat, by omega, by omega, by omega, by omega, by omega, by omega, by omega⟩
theorem bits_cut (zs : List Int) (N W : Nat) (hW : W ≤ 8 * N) : (bitsOf (zs.take N)).take W = (bitsOf zs).take W := by
  by_cases h : zs.length ≤ N
  · rw [List.take_of_length_le h]
  · conv => rhs; rw [← List.take_append_drop N zs, bitsOf_append]
    rw [List.take_append_of_le_length (by rw [bitsOf_len, List.length_take]; omega)]
/-- the row of bytes that is asked for -/
theorem row_of {w : World} {a : Option Addr} {len cap : Nat} {zs : List Int} (h : Bs w a len cap zs) {N : Nat} (h1 : 1 ≤ N) (h2 : N ≤ len) :
    ∃ b o, a = some ⟨b, o, none⟩ ∧ (zs.take N).length = N ∧ (∀ z ∈ zs.take N, 0 ≤ z ∧ z ≤ 255) ∧ ∀ i, i < N → w.cell? ⟨b, o + i, none⟩ = some (.int .u8 ((zs.take N).getD i 0)) := by
  obtain ⟨⟨hl, hs⟩, hc, hm, hby⟩ := h
  rcases hs with h0 | ⟨b, o, rfl, hs⟩
  · omega
  · refine ⟨b, o, rfl, by rw [List.length_take]; omega, fun z hz => hby z (List.mem_of_mem_take hz), fun i hi => ?_⟩
    rw [hs i (by omega), List.getD_eq_getElem?_getD, List.getD_eq_getElem?_getD, List.getElem?_take_of_lt hi]
theorem unpack_any (a : Option Addr) (len cap : Nat) (zs : List Int) (W : Int) (w : World) (h : Bs w a len cap zs) :
    Calls Try.prog 45 #[.slice a len cap, .int .i64 W] w (UnpR (unpackV zs W) (rowE len W) w) := by
  have hl : zs.length = len := h.1.1
  by_cases h0 : rowE len W = 0
  · obtain ⟨N, P, rfl, hN, h1, h2, h3, h4, h5⟩ := bytesV_pos h0
    obtain ⟨b, o, rfl, k1, k2, k3⟩ := row_of h h1 h2
    have := unpack_yes (zs.take N) b o len cap N P k1 k2 h.2.1 h.2.2.1 hN h1 h2 h3 h4 h5 w k3
    rw [bits_cut zs N P h4] at this
    unfold unpackV
    rw [hl, if_pos h0, h0]
    exact this
  · refine (unpack_no a len cap W (by have := h.2; omega) h0 w).mono ?_
    rintro e w' ⟨rfl, rfl⟩
    unfold unpackV
    rw [hl, if_neg h0]
    exact ⟨none, 0, rfl, World.ownsRow_nil _ _ _ _, Below.refl _ _⟩
/-- how many are 1 -/
def sumV : List Int → Int
  | [] => 0
  | x :: l => x + sumV l
theorem sumV_snoc : ∀ (a : List Int) (x : Int), sumV (a ++ [x]) = sumV a + x
  | [], x => by simp [sumV]
  | y :: a, x => by simp [sumV, sumV_snoc a x]; omega
theorem sumV_append : ∀ (a b : List Int), sumV (a ++ b) = sumV a + sumV b
  | [], b => by simp [sumV]
  | y :: a, b => by simp [sumV, sumV_append a b]; omega
theorem sumV_le : ∀ (a : List Int), (∀ x ∈ a, x = 0 ∨ x = 1) → 0 ≤ sumV a ∧ sumV a ≤ a.length
  | [], _ => by simp [sumV]
  | y :: a, h => by
    have h1 := h y (by simp)
    have h2 := sumV_le a (fun x hx => h x (by simp [hx]))
    simp only [sumV, List.length_cons]; omega
set_option maxRecDepth 100000 in
theorem count_no (a : Option Addr) (len cap : Nat) (W : Int) (hl : len ≤ 9223372036854775807) (h : rowE len W ≠ 0) (w : World) :
    Calls Try.prog 50 #[.slice a len cap, .int .i64 W] w fun e w' => e = .returned (.int .i64 0) ∧ w = w' := by
  have hk : (rowE len W != 0) = true := by simpa using h
  have H := Lib.hid h; clear h
  obtain ⟨r, hr⟩ : ∃ r, rowE len W = r := ⟨_, rfl⟩
  have HR := Lib.hid hr
  rw [hr] at hk
  clear hr
  refine calls_of_marks Try.func50 rfl ?_
  simp only [Try.ntmps50, List.size_toArray, List.length_cons, List.length_nil, Nat.reduceAdd, Nat.reduceSub, Array.replicate_succ, Array.replicate_zero, List.push_toArray, List.append_toArray, List.nil_append, List.cons_append]
  go_wp2_with (first | (go_at_call 86; refine (rowOf_no _ _ _ _ hl H.out _).mono ?_; rw [HR.out]; rintro e w1 ⟨rfl, rfl⟩))
  exact ⟨_, results_tmp rfl _ _ _, rfl, rfl⟩
set_option maxRecDepth 100000 in
set_option maxHeartbeats 2000000 in
theorem count_yes (zs : List Int) (b o len cap n W : Nat) (hzs : zs.length = n) (hby : ∀ z ∈ zs, 0 ≤ z ∧ z ≤ 255) (hl : len ≤ cap) (hc : cap ≤ 9223372036854775807) (hn : bytesV W = n) (h1 : 1 ≤ n) (h2 : n ≤ len) (hn2 : n ≤ 4096) (hW1 : W ≤ 8 * n) (hW2 : 8 * n < W + 8) (w : World)
    (hr : ∀ i, i < n → w.cell? ⟨b, o + i, none⟩ = some (.int .u8 (zs.getD i 0))) :
    Calls Try.prog 50 #[.slice (some ⟨b, o, none⟩) len cap, .int .i64 W] w fun e w' => e = .returned (.int .i64 (sumV ((bitsOf zs).take W))) ∧ Below w.heap.size w w' := by
  have HR := Lib.hid hr; clear hr
  have HN := Lib.hid hn; clear hn
  have W0 : (0 : Int) ≤ W := Int.natCast_nonneg _
  refine calls_of_marks Try.func50 rfl ?_
  simp only [Try.ntmps50, List.size_toArray, List.length_cons, List.length_nil, Nat.reduceAdd, Nat.reduceSub, Array.replicate_succ, Array.replicate_zero, List.push_toArray, List.append_toArray, List.nil_append, List.cons_append]
  go_wp2_with (first
    | (go_at_call 86; refine (rowOf_yes _ _ _ _ n _ hl hc HN.out h1 h2 _).mono ?_; rintro e w1 ⟨rfl, rfl⟩)
    | (go_at_call 87; refine (pixels_made _ _ _ _ _).mono ?_; rintro e w2 ⟨nb, bb, rfl, hne, l1, l2, cn, cb, hb⟩))
  simp only [World.size_alloc] at l1 l2
  have hbw : b < w.heap.size := by have := HR.out 0 (by omega); exact block_lt_of_cell this
  have hs2 := hb.size
  simp only [World.size_alloc] at hs2
  have ln : nb < w2.heap.size := block_lt_of_cell cn
  have lb : bb < w2.heap.size := block_lt_of_cell cb
  have hv0 : Boxed w2 w.heap.size 3 (.int .i64 0) := (hb.block _ (by simp)).trans (Boxed.new w _ _)
  have hbel : Below w.heap.size w w2 := ((Below.refl _ w).alloc (Nat.le_refl _) _).trans (hb.mono (by simp))
  have hrow2 : ∀ i, i < n → w2.cell? ⟨b, o + i, none⟩ = some (.int .u8 (zs.getD i 0)) := fun i hi => cell_later hbel (HR.out i hi)
  have hzg : ¬ (Zp nb bb b w2 w.heap.size ∨ w.heap.size = w2.heap.size ∨ w.heap.size = w2.heap.size + 1) := by unfold Zp; omega
  have hyg : ¬ (Zs nb bb w2 w.heap.size ∨ w.heap.size = w2.heap.size ∨ w.heap.size = w2.heap.size + 1) := by unfold Zs; omega
  have hxl : ((bitsOf zs).take W).length = W := by rw [List.length_take, bitsOf_len]; omega
  have h01 : ∀ x ∈ (bitsOf zs).take W, x = 0 ∨ x = 1 := fun x hx => bitsOf_01 zs x (List.mem_of_mem_take hx)
  have hGV := pixels_gives zs n W cap b o nb bb hzs hby h1 hn2 hW1 hW2 (by omega) w2 2 (by omega) cn cb hrow2
  obtain ⟨xs, hxs⟩ : ∃ xs, (bitsOf zs).take W = xs := ⟨_, rfl⟩
  rw [hxs] at hxl hGV h01
  have HX := Lib.hid hxs
  have H01 := Lib.hid h01
  clear hb cn cb hxs hrow2 h01
  refine range_wpN (gf := 103) (lb := #[.pointer (some ⟨nb, 0, none⟩), .pointer (some ⟨bb, 0, none⟩)]) rfl (enters_of Try.func103 (by kernel_rfl) rfl)
    hGV (by intro k; unfold Zp Zs; omega) (by unfold Zp; omega) (by unfold Zp; omega) (fun _ => rfl)
    (fun pre W' => Boxed W' w.heap.size 3 (.int .i64 (sumV pre)) ∧ Below w.heap.size w W')
    (fun _ _ _ => False) ?hI (fun _ _ _ _ hh _ => hh) ⟨hv0, hbel⟩ ?_ ?assign ?body ?done ?stop
  case hI =>
    rintro p A B' ⟨h1, h4⟩ hs
    exact ⟨boxed_sep h1 hs hyg, h4.trans (hs.below h4.size (by intro k hk; unfold Zs; omega))⟩
  case assign =>
    intro l x W K hK
    gi_wp2
    exact hK
  case body =>
    rintro l pre x rest W' hx hlt ⟨hv, hB⟩
    have hp : pre.length + 1 ≤ W := by have := congrArg List.length hx; simp at this; omega
    have hq := sumV_le pre (fun y hy => H01.out y (by rw [hx]; simp [hy]))
    have hx1 := H01.out x (by rw [hx]; simp)
    obtain ⟨q0, q1⟩ := hq
    have hX : 0 ≤ x ∧ x ≤ 1 := by omega
    obtain ⟨x0, x1⟩ := hX
    clear hx hv0 hx1
    have hvc := hv.cell
    have hvf := hv.frozen
    gi_wp2
    exact ⟨.setCell _ hzg _, by rw [sumV_snoc]; exact hv.set _, hB.setCell (Nat.le_refl _) _⟩
  case done =>
    rintro W' ⟨hv, hB⟩ hK
    have hvc := hv.cell
    clear hv0 hv
    go_wp2
    refine ret_mark hK (results_tmp rfl _ _ _) ?_
    have hlK : w2.heap.size < W'.heap.size := (Array.getElem?_eq_some_iff.1 hK).1
    rw [HX.out]
    exact ⟨rfl, Below.putObj hB (by omega) _⟩
  case stop =>
    rintro c pre W _ hh _
    exact hh.elim
theorem count_any (a : Option Addr) (len cap : Nat) (zs : List Int) (W : Int) (w : World) (h : Bs w a len cap zs) :
    Calls Try.prog 50 #[.slice a len cap, .int .i64 W] w fun e w' => e = .returned (.int .i64 (sumV (unpackV zs W))) ∧ Below w.heap.size w w' := by
  have hl : zs.length = len := h.1.1
  by_cases h0 : rowE len W = 0
  · obtain ⟨N, P, rfl, hN, h1, h2, h3, h4, h5⟩ := bytesV_pos h0
    obtain ⟨b, o, rfl, k1, k2, k3⟩ := row_of h h1 h2
    have := count_yes (zs.take N) b o len cap N P k1 k2 h.2.1 h.2.2.1 hN h1 h2 h3 h4 h5 w k3
    rw [bits_cut zs N P h4] at this
    unfold unpackV
    rw [hl, if_pos h0]
    exact this
  · refine (count_no a len cap W (by have := h.2; omega) h0 w).mono ?_
    rintro e w' ⟨rfl, rfl⟩
    unfold unpackV
    rw [hl, if_neg h0]
    exact ⟨rfl, Below.refl _ _⟩
end Bt
end Go.Proofs.Ytjjpnipcpnkakaa

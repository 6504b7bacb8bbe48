/- A row's own bytes, and its pixels, over any memory. Condition: numbers fit their kinds. -/
import Derived.Test.YtjjpnipcpnkakaaBtD
namespace Go.Proofs.Ytjjpnipcpnkakaa
open Go.RowKit Go.Shelf
attribute [local go_sem] Oper.semAt_some
set_option linter.unusedVariables false
namespace Bt
theorem rowOf_no (a : Option Addr) (len cap : Nat) (W : Int) (hl : len ≤ 9223372036854775807) (h : rowE len W ≠ 0) (w : World) :
    Calls Try.prog 86 #[.slice a len cap, .int .i64 W] w fun e w' => e = .returned (.tuple #[.slice none 0 0, .int .i64 (rowE len W)]) ∧ w = w' := by
  obtain ⟨n, hn⟩ : ∃ n, bytesV W = n := ⟨_, rfl⟩
  have HN := Lib.hid hn
  unfold rowE at h ⊢
  rw [hn] at h ⊢
  clear hn
  by_cases h0 : n = 0
  · have h0b : (n == 0) = true := by simpa using h0
    have X := Lib.hid (show (1 : Int) = (if n = 0 then 1 else if (len : Int) < n then 6 else 0) by rw [if_pos h0])
    rw [← X.out]
    clear h
    go_enter Try.func86, Try.ntmps86
    go_wp2_with (first | (go_at_call 48; refine (bytes_any _ _).mono ?_; rw [HN.out]; rintro e w1 ⟨rfl, rfl⟩))
    go_ret2
    exact ⟨rfl, rfl⟩
  · have h0b : (n == 0) = false := by simpa using h0
    by_cases h1 : (len : Int) < n
    · have X := Lib.hid (show (6 : Int) = (if n = 0 then 1 else if (len : Int) < n then 6 else 0) by rw [if_neg h0, if_pos h1])
      rw [← X.out]
      clear h
      go_enter Try.func86, Try.ntmps86
      go_wp2_with (first | (go_at_call 48; refine (bytes_any _ _).mono ?_; rw [HN.out]; rintro e w1 ⟨rfl, rfl⟩))
      go_ret2
      exact ⟨rfl, rfl⟩
    · rw [if_neg h0, if_neg h1] at h
      exact absurd rfl h
theorem rowOf_yes (b o : Nat) (len cap n : Nat) (W : Int) (hl : len ≤ cap) (hc : cap ≤ 9223372036854775807) (hn : bytesV W = n) (h1 : 1 ≤ n) (h2 : n ≤ len) (w : World) :
    Calls Try.prog 86 #[.slice (some ⟨b, o, none⟩) len cap, .int .i64 W] w fun e w' => e = .returned (.tuple #[.slice (some ⟨b, o, none⟩) n cap, .int .i64 0]) ∧ w = w' := by
  have HN := Lib.hid hn; clear hn
  have h0b : ((n : Int) == 0) = false := by simp; omega
  have h3 : ¬ (len : Int) < n := by omega
  have h4 : ¬ len < n := by omega
  go_enter Try.func86, Try.ntmps86
  go_wp2_with (first | (go_at_call 48; refine (bytes_any _ _).mono ?_; rw [HN.out]; rintro e w1 ⟨rfl, rfl⟩))
  go_ret2
  exact ⟨rfl, rfl⟩
theorem ownsRow_same {A B : World} {base size n cap g : Nat} {e : TypeId} {xs : List Value} (h : A.ownsRow base e size (.slice (some ⟨g, 0, none⟩) n cap) n xs) (hb : B.heap[g]? = A.heap[g]?) : B.ownsRow base e size (.slice (some ⟨g, 0, none⟩) n cap) n xs := by
  obtain ⟨h1, h2⟩ := h
  refine ⟨h1, ?_⟩
  rcases h2 with ⟨h2, _⟩ | ⟨g', cap', cur, h2, hg, hc, r⟩
  · cases h2
  · cases h2
    exact .inr ⟨g, cap, cur, rfl, hg, hb.trans hc, r⟩
theorem ownsRow_blk {A : World} {base size n cap g : Nat} {e : TypeId} {xs : List Value} (h : A.ownsRow base e size (.slice (some ⟨g, 0, none⟩) n cap) n xs) : base ≤ g ∧ g < A.heap.size := h.lt g rfl
/-- 'x = append(x, ..)' within the capacity, x in a cell of its own, in a round: all that the round owes. -/
theorem fitted {W w1 : World} {base B g : Nat} {t e : TypeId} {k m cap : Nat} {xs ys : List Value} {tmp : Obj}
    (hv : Boxed W B t (.slice (some ⟨g, 0, none⟩) k cap)) (hte : t ≠ e) (hrow : W.ownsRow base e 1 (.slice (some ⟨g, 0, none⟩) k cap) k xs) (hown' : w1.ownsRow base e 1 (.slice (some ⟨g, 0, none⟩) m cap) m ys) (hgrow : (W.alloc tmp).grownBy w1 (some g)) :
    Boxed w1 B t (.slice (some ⟨g, 0, none⟩) k cap) ∧ Boxed (w1.setCell ⟨B, 0, none⟩ (.slice (some ⟨g, 0, none⟩) m cap)) B t (.slice (some ⟨g, 0, none⟩) m cap) ∧ (w1.setCell ⟨B, 0, none⟩ (.slice (some ⟨g, 0, none⟩) m cap)).ownsRow base e 1 (.slice (some ⟨g, 0, none⟩) m cap) m ys ∧
    (∀ Z : Nat → Prop, ¬ Z B → ¬ Z g → Hold Z W (w1.setCell ⟨B, 0, none⟩ (.slice (some ⟨g, 0, none⟩) m cap))) ∧
    (∀ m', m' ≤ B → m' ≤ base → m' ≤ W.heap.size → Below m' W (w1.setCell ⟨B, 0, none⟩ (.slice (some ⟨g, 0, none⟩) m cap))) := by
  have hb : base ≤ g := (ownsRow_blk hrow).1
  have hne : some B ≠ some g := hv.not_row hte hrow
  have hv1 : Boxed w1 B t (.slice (some ⟨g, 0, none⟩) k cap) := (hv.alloc tmp).kept hgrow hne
  refine ⟨hv1, hv1.set _, hown'.kept (grownBy_setCell' w1 B _) (.inr (hv1.not_row hte hown').symm), fun Z hz hzg => ?_, fun m' h1 h2 h3 => ?_⟩
  · exact ((Hold.alloc Z W tmp).trans (.grown hgrow fun j ej => by cases ej; exact hzg)).trans (.setCell _ hz _)
  · exact (((Below.refl m' W).alloc h3 tmp).grown hgrow (by simp; omega) fun j ej => by cases ej; exact Nat.le_trans h2 hb).setCell (p := ⟨B, 0, none⟩) h1 _
def UnpR (xs : List Int) (er : Int) (w : World) (e : Ending) (w' : World) : Prop :=
  ∃ ad cap, e = .returned (.tuple #[.slice ad xs.length cap, .int .i64 er]) ∧ w'.ownsRow w.heap.size 3 1 (.slice ad xs.length cap) xs.length (xs.map (Value.int .i64)) ∧ Below w.heap.size w w'
theorem Try.info_int : (Try.prog.info? 3).map (fun i => (i.zero, i.size, i.bytes)) = some (some (.int .i64 0), 1, 8) := by kernel_rfl
set_option maxRecDepth 100000 in
theorem unpack_no (a : Option Addr) (len cap : Nat) (W : Int) (hl : len ≤ 9223372036854775807) (h : rowE len W ≠ 0) (w : World) :
    Calls Try.prog 45 #[.slice a len cap, .int .i64 W] w fun e w' => e = .returned (.tuple #[.slice none 0 0, .int .i64 (rowE len W)]) ∧ w = w' := by
  have hk : (rowE len W != 0) = true := by simpa using h
  have H := Lib.hid h; clear h
  obtain ⟨r, hr⟩ : ∃ r, rowE len W = r := ⟨_, rfl⟩
  have HR := Lib.hid hr
  rw [hr] at hk ⊢
  clear hr
  refine calls_of_marks Try.func45 rfl ?_
  simp only [Try.ntmps45, List.size_toArray, List.length_cons, List.length_nil, Nat.reduceAdd, Nat.reduceSub, Array.replicate_succ, Array.replicate_zero, List.push_toArray, List.append_toArray, List.nil_append, List.cons_append]
  go_wp2_with (first | (go_at_call 86; refine (rowOf_no _ _ _ _ hl H.out _).mono ?_; rw [HR.out]; rintro e w1 ⟨rfl, rfl⟩))
  exact ⟨_, results_tmp2 rfl _ _ _, rfl, rfl⟩
set_option maxRecDepth 100000 in
set_option maxHeartbeats 2000000 in
theorem unpack_yes (zs : List Int) (b o len cap n W : Nat) (hzs : zs.length = n) (hby : ∀ z ∈ zs, 0 ≤ z ∧ z ≤ 255) (hl : len ≤ cap) (hc : cap ≤ 9223372036854775807) (hn : bytesV W = n) (h1 : 1 ≤ n) (h2 : n ≤ len) (hn2 : n ≤ 4096) (hW1 : W ≤ 8 * n) (hW2 : 8 * n < W + 8) (w : World)
    (hr : ∀ i, i < n → w.cell? ⟨b, o + i, none⟩ = some (.int .u8 (zs.getD i 0))) :
    Calls Try.prog 45 #[.slice (some ⟨b, o, none⟩) len cap, .int .i64 W] w (UnpR ((bitsOf zs).take W) 0 w) := by
  obtain ⟨i0, hi, hz0, hz1, hz2⟩ := info_parts Try.info_int
  have HR := Lib.hid hr; clear hr
  have HN := Lib.hid hn; clear hn
  have W0 : (0 : Int) ≤ W := Int.natCast_nonneg _
  refine calls_of_marks Try.func45 rfl ?_
  simp only [Try.ntmps45, List.size_toArray, List.length_cons, List.length_nil, Nat.reduceAdd, Nat.reduceSub, Array.replicate_succ, Array.replicate_zero, List.push_toArray, List.append_toArray, List.nil_append, List.cons_append]
  go_wp2_with (first
    | (go_at_call 86; refine (rowOf_yes _ _ _ _ n _ hl hc HN.out h1 h2 _).mono ?_; rintro e w1 ⟨rfl, rfl⟩)
    | (at_make; refine wpList_make_own _ rfl _ _ 74 rfl w.heap.size 3 i0 (.int .i64 0) 1 Try.underlying74 hi hz0 hz1 .i64 .i64 (W : Int) W rfl rfl rfl (by rw [hz2]; omega) (by unfold maxLen; omega) (Nat.le_refl _) ?_; intro w1 hown hgrow; have hb1 : Below w.heap.size w w1 := (Below.refl _ w).grown hgrow (Nat.le_refl _) (by simp); have HO := Lib.hid hown; clear hown)
    | (go_at_call 87; refine (pixels_made _ _ _ _ _).mono ?_; rintro e w2 ⟨nb, bb, rfl, hne, l1, l2, cn, cb, hb⟩))
  simp only [World.size_alloc] at l1 l2
  have hbw : b < w.heap.size := by have := HR.out 0 (by omega); exact block_lt_of_cell this
  have hs1 := hb1.size
  have hs2 := hb.size
  have ln : nb < w2.heap.size := block_lt_of_cell cn
  have lb : bb < w2.heap.size := block_lt_of_cell cb
  have hg1 : w.heap.size < w1.heap.size := (ownsRow_blk HO.out).2
  obtain ⟨B, hB⟩ : ∃ B, w1.heap.size = B := ⟨_, rfl⟩
  have hv0 : Boxed w2 B 74 (.slice (some ⟨w.heap.size, 0, none⟩) 0 W) := by rw [← hB]; exact (hb.block _ (by simp)).trans (Boxed.new w1 _ _)
  have hr0 : w2.ownsRow w.heap.size 3 1 (.slice (some ⟨w.heap.size, 0, none⟩) 0 W) 0 [] := ownsRow_same (HO.out.alloc _) (hb.block _ (by simp; omega))
  have hbel : Below w.heap.size w w2 := (hb1.alloc (by omega) _).trans (hb.mono (by simp; omega))
  have hrow2 : ∀ i, i < n → w2.cell? ⟨b, o + i, none⟩ = some (.int .u8 (zs.getD i 0)) := fun i hi => cell_later hbel (HR.out i hi)
  rw [hB]
  rw [hB] at l1 l2 hg1
  simp only [World.size_alloc, hB] at hs2
  have hzB : ¬ (Zp nb bb b w2 B ∨ B = w2.heap.size ∨ B = w2.heap.size + 1) := by unfold Zp; omega
  have hyB : ¬ (Zs nb bb w2 B ∨ B = w2.heap.size ∨ B = w2.heap.size + 1) := by unfold Zs; omega
  have hzg : ¬ (Zp nb bb b w2 w.heap.size ∨ w.heap.size = w2.heap.size ∨ w.heap.size = w2.heap.size + 1) := by unfold Zp; omega
  have hyg : ¬ (Zs nb bb w2 w.heap.size ∨ w.heap.size = w2.heap.size ∨ w.heap.size = w2.heap.size + 1) := by unfold Zs; omega
  have hxl : ((bitsOf zs).take W).length = W := by rw [List.length_take, bitsOf_len]; omega
  have hGV := pixels_gives zs n W cap b o nb bb hzs hby h1 hn2 hW1 hW2 (by omega) w2 2 (by omega) cn cb hrow2
  obtain ⟨xs, hxs⟩ : ∃ xs, (bitsOf zs).take W = xs := ⟨_, rfl⟩
  rw [hxs] at hxl hGV
  have HX := Lib.hid hxs
  clear hb hB hb1 HO cn cb hxs hrow2
  refine range_wpN (gf := 103) (lb := #[.pointer (some ⟨nb, 0, none⟩), .pointer (some ⟨bb, 0, none⟩)]) rfl (enters_of Try.func103 (by kernel_rfl) rfl)
    hGV (by intro k; unfold Zp Zs; omega) (by unfold Zp; omega) (by unfold Zp; omega) (fun _ => rfl)
    (fun pre W' => Boxed W' B 74 (.slice (some ⟨w.heap.size, 0, none⟩) pre.length W) ∧ W'.ownsRow w.heap.size 3 1 (.slice (some ⟨w.heap.size, 0, none⟩) pre.length W) pre.length (pre.map (Value.int .i64)) ∧ Below w.heap.size w W')
    (fun _ _ _ => False) ?hI (fun _ _ _ _ hh _ => hh) ⟨hv0, hr0, hbel⟩ ?_ ?assign ?body ?done ?stop
  case hI =>
    rintro p A B' ⟨h1, h2, h4⟩ hs
    refine ⟨boxed_sep h1 hs hyB, ownsRow_same h2 (hs.block _ (ownsRow_blk h2).2 hyg), ?_⟩
    exact h4.trans (hs.below h4.size (by intro k hk; unfold Zs; omega))
  case assign =>
    intro l x W K hK
    gi_wp2
    exact hK
  case body =>
    rintro l pre x rest W' hx hlt ⟨hv, hrow, hB⟩
    have hp : pre.length + 1 ≤ W := by have := congrArg List.length hx; simp at this; omega
    clear hx hv0 hr0
    have hW := hB.size
    have hvc := hv.cell
    gi_wp2_with (gi_at_builtin; refine wpListIn_append_fits _ rfl _ _ 74 rfl w.heap.size 3 i0 1 Try.underlying74 hi hz1 w.heap.size pre.length W _ rfl (hrow.alloc _) ⟨W'.heap.size, 0, none⟩ 1 1 [.int .i64 x] rfl rfl (cell_one_new _ _ _) (by simp [Value.oneCell']) hp ?_; intro w5 hown' hgrow'; obtain ⟨hv1, hv2, hr2, hh2, hb2⟩ := fitted hv (by decide) hrow hown' hgrow'; have hc1 := hv1.cell; have hf1 := hv1.frozen)
    exact ⟨hh2 _ hzB hzg, by simpa using hv2, by simpa using hr2, hB.trans (hb2 _ (by omega) (Nat.le_refl _) hW)⟩
  case done =>
    rintro W' ⟨hv, hrow, hB⟩ hK
    have hvc := hv.cell
    rw [hxl] at hrow hvc
    clear hv0 hr0 hv
    go_wp2
    refine ret_mark hK (results_tmp2 rfl _ _ _) ?_
    have hlK : w2.heap.size < W'.heap.size := (Array.getElem?_eq_some_iff.1 hK).1
    rw [HX.out]
    refine ⟨some ⟨w.heap.size, 0, none⟩, W, by rw [hxl]; rfl, ?_, Below.putObj hB (by omega) _⟩
    rw [hxl]
    exact ownsRow_same hrow (World.putObj_heap_other (by omega))
  case stop =>
    rintro c pre W _ hh _
    exact hh.elim
end Bt
end Go.Proofs.Ytjjpnipcpnkakaa

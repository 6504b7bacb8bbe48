/- A reader of bytes is told a sample's last byte, over any memory. Condition: its head may be. -/
import Derived.Test.YtkjkepnailamnaaGreatZgAF
import Derived.Test.YtkjkepnailamnaaGreatZgAB
import Derived.Deep.RegionLaw
import Derived.Deep.RegionHeld3
namespace Go.Proofs.YtkjkepnailamnaaGreat
open Go.RowKit
set_option linter.unusedVariables false
set_option maxRecDepth 100000 in
set_option maxHeartbeats 2000000 in
theorem rwLow_bad {w : World} {b : Nat} {h : Hd.H} {n : Int} {sv rv : Value} {rows t f : Int} {x : Value} (H : RwC w b h n sv rv rows t f x) (c : Int) (c0 : 0 ≤ c) (c1 : c ≤ 255) (n0 : 0 ≤ n) (n1 : n ≤ 65280) (hb : h.m < n + c) :
    Calls Tryz.prog 177 #[.pointer (some ⟨b, 0, none⟩), .int .u8 c] w fun e w' => e = .returned (.slice none 0 0) ∧ RwC w' b h n sv rv rows 0 5 x ∧ w.grownBy w' (some b) := by
  have hc3 := H.c3
  have hc4 := H.c4
  have c8 := H.c8
  have c9 := H.c9
  have f8 := H.fr 8
  have f9 := H.fr 9
  have e2 : wrap64 (n + c) = n + c := by rw [IntWalk.wrap64_in] <;> omega
  go_enter Tryz.func177, Tryz.ntmps177
  go_wp2
  go_returns
  exact ⟨rfl, (H.put8 _).put9 _, (grown_set _ _ _ _).trans (grown_set _ _ _ _)⟩
def rwN (h : Hd.H) (b : Nat) (x : Value) : Value := if 255 < h.m then rwH b else x
set_option maxRecDepth 100000 in
set_option maxHeartbeats 4000000 in
theorem rwLow_more1 {w : World} {b : Nat} {h : Hd.H} (hm : Hd.May h) {n : Int} {sv rv : Value} {one row : List Int} {rows t : Int} {x : Value} (T : RwT w b h sv rv n sv rv one row rows t x w) (c : Int) (c0 : 0 ≤ c) (c1 : c ≤ 255) (n0 : 0 ≤ n) (n1 : n ≤ 65280) (hb : n + c ≤ h.m) (h255 : ¬ 255 < h.m) (ho4 : one.length ≤ 3) (hr4 : row.length ≤ 4096) (hone : (one.length : Int) + 1 < Hj.chan h) (hw : (row.length : Int) < h.w) :
    Calls Tryz.prog 177 #[.pointer (some ⟨b, 0, none⟩), .int .u8 c] w fun e w' => ∃ sv', RwTake w b h sv rv n sv' (one ++ [n + c]) (rwN h b x) t row rows [] e w' := by
  have hF := hformat_any h hm
  unfold Hj.fm agH at hF
  obtain ⟨C, hC⟩ : ∃ C, Hj.chan h = C := ⟨_, rfl⟩
  rw [hC] at hF hone
  have HF := Lib.hid hF
  have hfd := field0_run C h.m
  obtain ⟨i0, hi, hz0, hz1, hz2⟩ : ∃ i, Tryz.prog.info? 3 = some i ∧ i.zero = some (.int .i64 0) ∧ i.size = 1 ∧ i.bytes = 8 := (by have h := Tryz.info_in8; cases hh : Tryz.prog.info? 3 with | none => rw [hh] at h; cases h | some i => rw [hh] at h; simp at h; exact ⟨i, rfl, h.1, h.2.1, h.2.2⟩)
  have hte : 3 ≠ 55 := by decide
  have HN : Hid (rwN h b x = x) := Lib.hid (by unfold rwN; rw [if_neg h255])
  rw [HN.out]
  obtain ⟨k, hk⟩ : ∃ k, one.length = k := ⟨_, rfl⟩
  have HK := Lib.hid hk
  have hk3 : k ≤ 3 := by omega
  have hblt : b < w.heap.size := T.c.lt
  have hbne : ¬ b = w.heap.size := Nat.ne_of_lt hblt
  have HONE := Lib.hid hone
  have HM := Lib.hid hm
  have hc3 := T.c.c3
  have hc4 := T.c.c4
  have hc5 := T.c.c5
  have HT := Lib.hid T
  have HS : Hid (World.ownsRow w (b + 1) 3 1 sv k (ints one)) := by show World.ownsRow _ _ _ _ _ _ _; have := HT.out.s; rw [HK.out] at this; exact this
  have e2 : wrap64 (n + c) = n + c := by rw [IntWalk.wrap64_in] <;> omega
  have hle : ¬ h.m < n + c := by omega
  clear hF hone hC hk T ho4 hm n0 n1 hb
  go_enter Tryz.func177, Tryz.ntmps177
  go_wp2_with (at_builtin; refine Rw.wpList_app1 rfl _ _ 25 rfl (b + 1) 3 i0 (.int .i64 0) 8 Tryz.underlying25 hi hz0 rfl hz1 hz2 sv k (ints one) rfl (HS.out.alloc _) w.heap.size (.int .i64 (n + c)) rfl rfl (by rw [World.cell?_alloc_at _ _ _ _ rfl]; rfl) (by unfold maxLen; omega) (by omega) (by simp; omega) ?_; intro v5 w5 hown hgrow hat; obtain ⟨g, cc, rfl⟩ := Rw.own_pos hown; obtain ⟨q1, q2⟩ := HT.out.pushS hte _ (n + c) (by have h := hown; rw [HK.out]; exact h) hgrow (by rcases hat with e | e; exact .inl e.symm; exact .inr (by injection e)); have hf5 := q1.fr 5; have HT1 : Hid (RwT w b h sv rv n (.slice (some ⟨g, 0, none⟩) (k + 1) cc) rv (one ++ [n + c]) row rows t x (w5.setCell ⟨b, 5, none⟩ (.slice (some ⟨g, 0, none⟩) (k + 1) cc))) := (by have h := q2; rw [HK.out] at h; exact h); have hd5 := q1.c5; clear q1 q2 hown hgrow hat)
  generalize hW : w5.setCell ⟨b, 5, none⟩ (.slice (some ⟨g, 0, none⟩) (k + 1) cc) = w2
  have HT2 : Hid (RwT w b h sv rv n (.slice (some ⟨g, 0, none⟩) (k + 1) cc) rv (one ++ [n + c]) row rows t x w2) := by show RwT _ _ _ _ _ _ _ _ _ _ _ _ _ _; rw [← hW]; exact HT1.out
  clear HT1 hd5 hf5 hW HS HT hc3 hc4 hc5
  have T2 := HT2.out
  have e0 := T2.c.c0
  have e1 := T2.c.c1
  have e2 := T2.c.c2
  have e3 := T2.c.c3
  have e5 := T2.c.c5
  clear T2
  have hBr : Below w2.heap.size w2 w2 := .refl _ _
  go_cut [58] from 47 to 58 (fun s58 wx => s58 = .bool ((k : Int) + 1 == C) ∧ Below w2.heap.size w2 wx)
  case first =>
    go_region_held3 (fun w' => w'.cell? ⟨b, 0, none⟩ = some (.int .i64 h.kd) ∧ w'.cell? ⟨b, 1, none⟩ = some (.int .i64 h.w) ∧ w'.cell? ⟨b, 2, none⟩ = some (.int .i64 h.h) ∧ w'.cell? ⟨b, 3, none⟩ = some (.int .i64 h.m) ∧ w'.cell? ⟨b, 5, none⟩ = some (.slice (some ⟨g, 0, none⟩) (k + 1) cc))
      (first | exact ⟨e0, e1, e2, e3, e5⟩ | exact ⟨cell_later hBr e0, cell_later hBr e1, cell_later hBr e2, cell_later hBr e3, cell_later hBr e5⟩)
      (first | (go_at_call 59; refine (HF.out _).mono ?_; rintro e w8 ⟨rfl, hb8⟩; replace hBr := bel_step (w := w2) (by first | exact hBr | exact hBr.drew) hb8))
    all_goals
      go_wp2_with fail
      go_meet
      case rel => exact ⟨by rfl, hBr⟩
  case rest =>
    obtain ⟨rfl, hBx⟩ := hcut
    have HT3 := Lib.hid (HT2.out.below hBx)
    clear hBr e0 e1 e2 e3 e5 hBx HT2
    have htp : ((k : Int) + 1 == C) = false := by have := HONE.out; have := HK.out; simp; omega
    go_wp2_with (go_at_call 196; refine (rwTake_no HT3.out hw).mono ?_; rintro e w9 ⟨a9, c9, rv9, rfl, T9, S9⟩)
    go_returns
    exact ⟨_, a9, c9, rv9, rfl, T9, S9⟩
set_option maxRecDepth 100000 in
set_option maxHeartbeats 4000000 in
theorem rwLow_more2 {w : World} {b : Nat} {h : Hd.H} (hm : Hd.May h) {n : Int} {sv rv : Value} {one row : List Int} {rows t : Int} {x : Value} (T : RwT w b h sv rv n sv rv one row rows t x w) (c : Int) (c0 : 0 ≤ c) (c1 : c ≤ 255) (n0 : 0 ≤ n) (n1 : n ≤ 65280) (hb : n + c ≤ h.m) (h255 : 255 < h.m) (ho4 : one.length ≤ 3) (hr4 : row.length ≤ 4096) (hone : (one.length : Int) + 1 < Hj.chan h) (hw : (row.length : Int) < h.w) :
    Calls Tryz.prog 177 #[.pointer (some ⟨b, 0, none⟩), .int .u8 c] w fun e w' => ∃ sv', RwTake w b h sv rv n sv' (one ++ [n + c]) (rwN h b x) t row rows [] e w' := by
  have hF := hformat_any h hm
  unfold Hj.fm agH at hF
  obtain ⟨C, hC⟩ : ∃ C, Hj.chan h = C := ⟨_, rfl⟩
  rw [hC] at hF hone
  have HF := Lib.hid hF
  have hfd := field0_run C h.m
  obtain ⟨i0, hi, hz0, hz1, hz2⟩ : ∃ i, Tryz.prog.info? 3 = some i ∧ i.zero = some (.int .i64 0) ∧ i.size = 1 ∧ i.bytes = 8 := (by have h := Tryz.info_in8; cases hh : Tryz.prog.info? 3 with | none => rw [hh] at h; cases h | some i => rw [hh] at h; simp at h; exact ⟨i, rfl, h.1, h.2.1, h.2.2⟩)
  have hte : 3 ≠ 55 := by decide
  have HN : Hid (rwN h b x = rwH b) := Lib.hid (by unfold rwN; rw [if_pos h255])
  rw [HN.out]
  obtain ⟨k, hk⟩ : ∃ k, one.length = k := ⟨_, rfl⟩
  have HK := Lib.hid hk
  have hk3 : k ≤ 3 := by omega
  have hblt : b < w.heap.size := T.c.lt
  have hbne : ¬ b = w.heap.size := Nat.ne_of_lt hblt
  have HONE := Lib.hid hone
  have HM := Lib.hid hm
  have hc3 := T.c.c3
  have hc4 := T.c.c4
  have hc5 := T.c.c5
  have f10 := T.c.fr 10
  have hc10 := T.c.c10
  have HT : Hid (RwT w b h sv rv n sv rv one row rows t (rwH b) (w.setCell ⟨b, 10, none⟩ (rwH b))) := Lib.hid (T.set10 _)
  have hd3 := HT.out.c.c3
  have hd5 := HT.out.c.c5
  have HS : Hid (World.ownsRow (w.setCell ⟨b, 10, none⟩ (rwH b)) (b + 1) 3 1 sv k (ints one)) := by show World.ownsRow _ _ _ _ _ _ _; have := HT.out.s; rw [HK.out] at this; exact this
  have e2 : wrap64 (n + c) = n + c := by rw [IntWalk.wrap64_in] <;> omega
  have hle : ¬ h.m < n + c := by omega
  clear hF hone hC hk T ho4 hm n0 n1 hb
  go_enter Tryz.func177, Tryz.ntmps177
  go_wp2_with (at_builtin; refine Rw.wpList_app1 rfl _ _ 25 rfl (b + 1) 3 i0 (.int .i64 0) 8 Tryz.underlying25 hi hz0 rfl hz1 hz2 sv k (ints one) rfl (HS.out.alloc _) w.heap.size (.int .i64 (n + c)) rfl rfl (by rw [World.cell?_alloc_at _ _ _ _ (by simp)]; rfl) (by unfold maxLen; omega) (by omega) (by simp; omega) ?_; intro v5 w5 hown hgrow hat; obtain ⟨g, cc, rfl⟩ := Rw.own_pos hown; obtain ⟨q1, q2⟩ := HT.out.pushS hte _ (n + c) (by have h := hown; rw [HK.out]; exact h) hgrow (by rcases hat with e | e; exact .inl e.symm; exact .inr (by injection e)); have hf5 := q1.fr 5; have HT1 : Hid (RwT w b h sv rv n (.slice (some ⟨g, 0, none⟩) (k + 1) cc) rv (one ++ [n + c]) row rows t (rwH b) (w5.setCell ⟨b, 5, none⟩ (.slice (some ⟨g, 0, none⟩) (k + 1) cc))) := (by have h := q2; rw [HK.out] at h; exact h); have hd5 := q1.c5; clear q1 q2 hown hgrow hat)
  generalize hW : w5.setCell ⟨b, 5, none⟩ (.slice (some ⟨g, 0, none⟩) (k + 1) cc) = w2
  have HT2 : Hid (RwT w b h sv rv n (.slice (some ⟨g, 0, none⟩) (k + 1) cc) rv (one ++ [n + c]) row rows t (rwH b) w2) := by show RwT _ _ _ _ _ _ _ _ _ _ _ _ _ _; rw [← hW]; exact HT1.out
  clear HT1 hd5 hf5 hW HS HT hc3 hc4 hc5
  have T2 := HT2.out
  have e0 := T2.c.c0
  have e1 := T2.c.c1
  have e2 := T2.c.c2
  have e3 := T2.c.c3
  have e5 := T2.c.c5
  clear T2
  have hBr : Below w2.heap.size w2 w2 := .refl _ _
  go_cut [58] from 47 to 58 (fun s58 wx => s58 = .bool ((k : Int) + 1 == C) ∧ Below w2.heap.size w2 wx)
  case first =>
    go_region_held3 (fun w' => w'.cell? ⟨b, 0, none⟩ = some (.int .i64 h.kd) ∧ w'.cell? ⟨b, 1, none⟩ = some (.int .i64 h.w) ∧ w'.cell? ⟨b, 2, none⟩ = some (.int .i64 h.h) ∧ w'.cell? ⟨b, 3, none⟩ = some (.int .i64 h.m) ∧ w'.cell? ⟨b, 5, none⟩ = some (.slice (some ⟨g, 0, none⟩) (k + 1) cc))
      (first | exact ⟨e0, e1, e2, e3, e5⟩ | exact ⟨cell_later hBr e0, cell_later hBr e1, cell_later hBr e2, cell_later hBr e3, cell_later hBr e5⟩)
      (first | (go_at_call 59; refine (HF.out _).mono ?_; rintro e w8 ⟨rfl, hb8⟩; replace hBr := bel_step (w := w2) (by first | exact hBr | exact hBr.drew) hb8))
    all_goals
      go_wp2_with fail
      go_meet
      case rel => exact ⟨by rfl, hBr⟩
  case rest =>
    obtain ⟨rfl, hBx⟩ := hcut
    have HT3 := Lib.hid (HT2.out.below hBx)
    clear hBr e0 e1 e2 e3 e5 hBx HT2
    have htp : ((k : Int) + 1 == C) = false := by have := HONE.out; have := HK.out; simp; omega
    go_wp2_with (go_at_call 196; refine (rwTake_no HT3.out hw).mono ?_; rintro e w9 ⟨a9, c9, rv9, rfl, T9, S9⟩)
    go_returns
    exact ⟨_, a9, c9, rv9, rfl, T9, S9⟩
set_option maxRecDepth 100000 in
set_option maxHeartbeats 4000000 in
theorem rwLow_pix1 {w : World} {b : Nat} {h : Hd.H} (hm : Hd.May h) {n : Int} {sv rv : Value} {one row : List Int} {rows t : Int} {x : Value} (T : RwT w b h sv rv n sv rv one row rows t x w) (c : Int) (c0 : 0 ≤ c) (c1 : c ≤ 255) (n0 : 0 ≤ n) (n1 : n ≤ 65280) (hb : n + c ≤ h.m) (h255 : ¬ 255 < h.m) (ho4 : one.length ≤ 3) (hr4 : row.length ≤ 4096) (hone : (one.length : Int) + 1 = Hj.chan h) (row1 : List Int) (rows1 : Int) (out : List Int) (htk : ∀ w1 sv1 rv1 y, RwT w b h sv rv n sv1 rv1 [] (row ++ [Rw.pk (one ++ [n + c])]) rows t y w1 → Calls Tryz.prog 196 #[.pointer (some ⟨b, 0, none⟩)] w1 (RwTake w b h sv rv n sv1 [] y t row1 rows1 out)) :
    Calls Tryz.prog 177 #[.pointer (some ⟨b, 0, none⟩), .int .u8 c] w fun e w' => ∃ sv', RwTake w b h sv rv n sv' [] (rwN h b x) t row1 rows1 out e w' := by
  have hF := hformat_any h hm
  unfold Hj.fm agH at hF
  obtain ⟨C, hC⟩ : ∃ C, Hj.chan h = C := ⟨_, rfl⟩
  rw [hC] at hF hone
  have HF := Lib.hid hF
  have hfd := field0_run C h.m
  obtain ⟨i0, hi, hz0, hz1, hz2⟩ : ∃ i, Tryz.prog.info? 3 = some i ∧ i.zero = some (.int .i64 0) ∧ i.size = 1 ∧ i.bytes = 8 := (by have h := Tryz.info_in8; cases hh : Tryz.prog.info? 3 with | none => rw [hh] at h; cases h | some i => rw [hh] at h; simp at h; exact ⟨i, rfl, h.1, h.2.1, h.2.2⟩)
  have hte : 3 ≠ 55 := by decide
  have HN : Hid (rwN h b x = x) := Lib.hid (by unfold rwN; rw [if_neg h255])
  rw [HN.out]
  obtain ⟨k, hk⟩ : ∃ k, one.length = k := ⟨_, rfl⟩
  have HK := Lib.hid hk
  have hk3 : k ≤ 3 := by omega
  have hblt : b < w.heap.size := T.c.lt
  have hbne : ¬ b = w.heap.size := Nat.ne_of_lt hblt
  have HONE := Lib.hid hone
  have HM := Lib.hid hm
  have hc3 := T.c.c3
  have hc4 := T.c.c4
  have hc5 := T.c.c5
  have HT := Lib.hid T
  have HS : Hid (World.ownsRow w (b + 1) 3 1 sv k (ints one)) := by show World.ownsRow _ _ _ _ _ _ _; have := HT.out.s; rw [HK.out] at this; exact this
  have e2 : wrap64 (n + c) = n + c := by rw [IntWalk.wrap64_in] <;> omega
  have hle : ¬ h.m < n + c := by omega
  clear hF hone hC hk T ho4 hm n0 n1 hb
  go_enter Tryz.func177, Tryz.ntmps177
  go_wp2_with (at_builtin; refine Rw.wpList_app1 rfl _ _ 25 rfl (b + 1) 3 i0 (.int .i64 0) 8 Tryz.underlying25 hi hz0 rfl hz1 hz2 sv k (ints one) rfl (HS.out.alloc _) w.heap.size (.int .i64 (n + c)) rfl rfl (by rw [World.cell?_alloc_at _ _ _ _ rfl]; rfl) (by unfold maxLen; omega) (by omega) (by simp; omega) ?_; intro v5 w5 hown hgrow hat; obtain ⟨g, cc, rfl⟩ := Rw.own_pos hown; obtain ⟨q1, q2⟩ := HT.out.pushS hte _ (n + c) (by have h := hown; rw [HK.out]; exact h) hgrow (by rcases hat with e | e; exact .inl e.symm; exact .inr (by injection e)); have hf5 := q1.fr 5; have HT1 : Hid (RwT w b h sv rv n (.slice (some ⟨g, 0, none⟩) (k + 1) cc) rv (one ++ [n + c]) row rows t x (w5.setCell ⟨b, 5, none⟩ (.slice (some ⟨g, 0, none⟩) (k + 1) cc))) := (by have h := q2; rw [HK.out] at h; exact h); have hd5 := q1.c5; clear q1 q2 hown hgrow hat)
  generalize hW : w5.setCell ⟨b, 5, none⟩ (.slice (some ⟨g, 0, none⟩) (k + 1) cc) = w2
  have HT2 : Hid (RwT w b h sv rv n (.slice (some ⟨g, 0, none⟩) (k + 1) cc) rv (one ++ [n + c]) row rows t x w2) := by show RwT _ _ _ _ _ _ _ _ _ _ _ _ _ _; rw [← hW]; exact HT1.out
  clear HT1 hd5 hf5 hW HS HT hc3 hc4 hc5
  have T2 := HT2.out
  have e0 := T2.c.c0
  have e1 := T2.c.c1
  have e2 := T2.c.c2
  have e3 := T2.c.c3
  have e5 := T2.c.c5
  clear T2
  have hBr : Below w2.heap.size w2 w2 := .refl _ _
  go_cut [58] from 47 to 58 (fun s58 wx => s58 = .bool ((k : Int) + 1 == C) ∧ Below w2.heap.size w2 wx)
  case first =>
    go_region_held3 (fun w' => w'.cell? ⟨b, 0, none⟩ = some (.int .i64 h.kd) ∧ w'.cell? ⟨b, 1, none⟩ = some (.int .i64 h.w) ∧ w'.cell? ⟨b, 2, none⟩ = some (.int .i64 h.h) ∧ w'.cell? ⟨b, 3, none⟩ = some (.int .i64 h.m) ∧ w'.cell? ⟨b, 5, none⟩ = some (.slice (some ⟨g, 0, none⟩) (k + 1) cc))
      (first | exact ⟨e0, e1, e2, e3, e5⟩ | exact ⟨cell_later hBr e0, cell_later hBr e1, cell_later hBr e2, cell_later hBr e3, cell_later hBr e5⟩)
      (first | (go_at_call 59; refine (HF.out _).mono ?_; rintro e w8 ⟨rfl, hb8⟩; replace hBr := bel_step (w := w2) (by first | exact hBr | exact hBr.drew) hb8))
    all_goals
      go_wp2_with fail
      go_meet
      case rel => exact ⟨by rfl, hBr⟩
  case rest =>
    obtain ⟨rfl, hBx⟩ := hcut
    have HT3 := Lib.hid (HT2.out.below hBx)
    clear hBr e0 e1 e2 e3 e5 hBx HT2
    have htp : ((k : Int) + 1 == C) = true := by have := HONE.out; have := HK.out; simp; omega
    have HTK := Lib.hid htk
    have HSL : Hid (Pq.Sl wc (some ⟨g, 0, none⟩) (k + 1) (one ++ [n + c])) := by
      have hk := HK.out
      have hs := HT3.out.s
      rw [List.length_append, List.length_singleton, hk] at hs
      obtain ⟨a', c', hv, hs'⟩ := sl_of_row (z := 0) rfl hs (by rw [List.length_append, List.length_singleton, hk])
      cases hv; exact hs'
    have i5 := HT3.out.c.c5
    clear htk
    go_upto_region 10 with (go_at_call 195; refine (rwAdd_any HT3.out hr4 _ _ _ _ (by omega) HSL.out).mono ?_; rintro e w9 ⟨rfl, rv9, T9⟩)
    have HT9 := Lib.hid T9
    have j5 := T9.c.c5
    have f5 := T9.c.fr 5
    clear T9 HT3 HSL i5
    go_wp2_with (go_at_call 196; refine (HTK.out _ _ _ _ (HT9.out.clear (by rw [List.length_append, List.length_singleton, HK.out]))).mono ?_; rintro e w10 ⟨a10, c10, rv10, rfl, T10, S10⟩)
    go_returns
    exact ⟨_, a10, c10, rv10, rfl, T10, S10⟩
set_option maxRecDepth 100000 in
set_option maxHeartbeats 4000000 in
theorem rwLow_pix2 {w : World} {b : Nat} {h : Hd.H} (hm : Hd.May h) {n : Int} {sv rv : Value} {one row : List Int} {rows t : Int} {x : Value} (T : RwT w b h sv rv n sv rv one row rows t x w) (c : Int) (c0 : 0 ≤ c) (c1 : c ≤ 255) (n0 : 0 ≤ n) (n1 : n ≤ 65280) (hb : n + c ≤ h.m) (h255 : 255 < h.m) (ho4 : one.length ≤ 3) (hr4 : row.length ≤ 4096) (hone : (one.length : Int) + 1 = Hj.chan h) (row1 : List Int) (rows1 : Int) (out : List Int) (htk : ∀ w1 sv1 rv1 y, RwT w b h sv rv n sv1 rv1 [] (row ++ [Rw.pk (one ++ [n + c])]) rows t y w1 → Calls Tryz.prog 196 #[.pointer (some ⟨b, 0, none⟩)] w1 (RwTake w b h sv rv n sv1 [] y t row1 rows1 out)) :
    Calls Tryz.prog 177 #[.pointer (some ⟨b, 0, none⟩), .int .u8 c] w fun e w' => ∃ sv', RwTake w b h sv rv n sv' [] (rwN h b x) t row1 rows1 out e w' := by
  have hF := hformat_any h hm
  unfold Hj.fm agH at hF
  obtain ⟨C, hC⟩ : ∃ C, Hj.chan h = C := ⟨_, rfl⟩
  rw [hC] at hF hone
  have HF := Lib.hid hF
  have hfd := field0_run C h.m
  obtain ⟨i0, hi, hz0, hz1, hz2⟩ : ∃ i, Tryz.prog.info? 3 = some i ∧ i.zero = some (.int .i64 0) ∧ i.size = 1 ∧ i.bytes = 8 := (by have h := Tryz.info_in8; cases hh : Tryz.prog.info? 3 with | none => rw [hh] at h; cases h | some i => rw [hh] at h; simp at h; exact ⟨i, rfl, h.1, h.2.1, h.2.2⟩)
  have hte : 3 ≠ 55 := by decide
  have HN : Hid (rwN h b x = rwH b) := Lib.hid (by unfold rwN; rw [if_pos h255])
  rw [HN.out]
  obtain ⟨k, hk⟩ : ∃ k, one.length = k := ⟨_, rfl⟩
  have HK := Lib.hid hk
  have hk3 : k ≤ 3 := by omega
  have hblt : b < w.heap.size := T.c.lt
  have hbne : ¬ b = w.heap.size := Nat.ne_of_lt hblt
  have HONE := Lib.hid hone
  have HM := Lib.hid hm
  have hc3 := T.c.c3
  have hc4 := T.c.c4
  have hc5 := T.c.c5
  have f10 := T.c.fr 10
  have hc10 := T.c.c10
  have HT : Hid (RwT w b h sv rv n sv rv one row rows t (rwH b) (w.setCell ⟨b, 10, none⟩ (rwH b))) := Lib.hid (T.set10 _)
  have hd3 := HT.out.c.c3
  have hd5 := HT.out.c.c5
  have HS : Hid (World.ownsRow (w.setCell ⟨b, 10, none⟩ (rwH b)) (b + 1) 3 1 sv k (ints one)) := by show World.ownsRow _ _ _ _ _ _ _; have := HT.out.s; rw [HK.out] at this; exact this
  have e2 : wrap64 (n + c) = n + c := by rw [IntWalk.wrap64_in] <;> omega
  have hle : ¬ h.m < n + c := by omega
  clear hF hone hC hk T ho4 hm n0 n1 hb
  go_enter Tryz.func177, Tryz.ntmps177
  go_wp2_with (at_builtin; refine Rw.wpList_app1 rfl _ _ 25 rfl (b + 1) 3 i0 (.int .i64 0) 8 Tryz.underlying25 hi hz0 rfl hz1 hz2 sv k (ints one) rfl (HS.out.alloc _) w.heap.size (.int .i64 (n + c)) rfl rfl (by rw [World.cell?_alloc_at _ _ _ _ (by simp)]; rfl) (by unfold maxLen; omega) (by omega) (by simp; omega) ?_; intro v5 w5 hown hgrow hat; obtain ⟨g, cc, rfl⟩ := Rw.own_pos hown; obtain ⟨q1, q2⟩ := HT.out.pushS hte _ (n + c) (by have h := hown; rw [HK.out]; exact h) hgrow (by rcases hat with e | e; exact .inl e.symm; exact .inr (by injection e)); have hf5 := q1.fr 5; have HT1 : Hid (RwT w b h sv rv n (.slice (some ⟨g, 0, none⟩) (k + 1) cc) rv (one ++ [n + c]) row rows t (rwH b) (w5.setCell ⟨b, 5, none⟩ (.slice (some ⟨g, 0, none⟩) (k + 1) cc))) := (by have h := q2; rw [HK.out] at h; exact h); have hd5 := q1.c5; clear q1 q2 hown hgrow hat)
  generalize hW : w5.setCell ⟨b, 5, none⟩ (.slice (some ⟨g, 0, none⟩) (k + 1) cc) = w2
  have HT2 : Hid (RwT w b h sv rv n (.slice (some ⟨g, 0, none⟩) (k + 1) cc) rv (one ++ [n + c]) row rows t (rwH b) w2) := by show RwT _ _ _ _ _ _ _ _ _ _ _ _ _ _; rw [← hW]; exact HT1.out
  clear HT1 hd5 hf5 hW HS HT hc3 hc4 hc5
  have T2 := HT2.out
  have e0 := T2.c.c0
  have e1 := T2.c.c1
  have e2 := T2.c.c2
  have e3 := T2.c.c3
  have e5 := T2.c.c5
  clear T2
  have hBr : Below w2.heap.size w2 w2 := .refl _ _
  go_cut [58] from 47 to 58 (fun s58 wx => s58 = .bool ((k : Int) + 1 == C) ∧ Below w2.heap.size w2 wx)
  case first =>
    go_region_held3 (fun w' => w'.cell? ⟨b, 0, none⟩ = some (.int .i64 h.kd) ∧ w'.cell? ⟨b, 1, none⟩ = some (.int .i64 h.w) ∧ w'.cell? ⟨b, 2, none⟩ = some (.int .i64 h.h) ∧ w'.cell? ⟨b, 3, none⟩ = some (.int .i64 h.m) ∧ w'.cell? ⟨b, 5, none⟩ = some (.slice (some ⟨g, 0, none⟩) (k + 1) cc))
      (first | exact ⟨e0, e1, e2, e3, e5⟩ | exact ⟨cell_later hBr e0, cell_later hBr e1, cell_later hBr e2, cell_later hBr e3, cell_later hBr e5⟩)
      (first | (go_at_call 59; refine (HF.out _).mono ?_; rintro e w8 ⟨rfl, hb8⟩; replace hBr := bel_step (w := w2) (by first | exact hBr | exact hBr.drew) hb8))
    all_goals
      go_wp2_with fail
      go_meet
      case rel => exact ⟨by rfl, hBr⟩
  case rest =>
    obtain ⟨rfl, hBx⟩ := hcut
    have HT3 := Lib.hid (HT2.out.below hBx)
    clear hBr e0 e1 e2 e3 e5 hBx HT2
    have htp : ((k : Int) + 1 == C) = true := by have := HONE.out; have := HK.out; simp; omega
    have HTK := Lib.hid htk
    have HSL : Hid (Pq.Sl wc (some ⟨g, 0, none⟩) (k + 1) (one ++ [n + c])) := by
      have hk := HK.out
      have hs := HT3.out.s
      rw [List.length_append, List.length_singleton, hk] at hs
      obtain ⟨a', c', hv, hs'⟩ := sl_of_row (z := 0) rfl hs (by rw [List.length_append, List.length_singleton, hk])
      cases hv; exact hs'
    have i5 := HT3.out.c.c5
    clear htk
    go_upto_region 10 with (go_at_call 195; refine (rwAdd_any HT3.out hr4 _ _ _ _ (by omega) HSL.out).mono ?_; rintro e w9 ⟨rfl, rv9, T9⟩)
    have HT9 := Lib.hid T9
    have j5 := T9.c.c5
    have f5 := T9.c.fr 5
    clear T9 HT3 HSL i5
    go_wp2_with (go_at_call 196; refine (HTK.out _ _ _ _ (HT9.out.clear (by rw [List.length_append, List.length_singleton, HK.out]))).mono ?_; rintro e w10 ⟨a10, c10, rv10, rfl, T10, S10⟩)
    go_returns
    exact ⟨_, a10, c10, rv10, rfl, T10, S10⟩
end Go.Proofs.YtkjkepnailamnaaGreat

/- The document's reader of digits is told a sample, over any memory. Condition: its head may be, its numbers are samples. -/
import Derived.Test.YtkjkepnailamnaaGreatZgAF
import Derived.Test.YtkjkepnailamnaaGreatZPlD
namespace Go.Proofs.YtkjkepnailamnaaGreat
open Go.RowKit
set_option linter.unusedVariables false
theorem slk_one (w : World) (q : IntKind) (x : Int) (t : TypeId) : SlK q (w.alloc (.cells #[.int q x] t)) (some ⟨w.heap.size, 0, none⟩) 1 [x] := by
  refine ⟨rfl, .inr ⟨w.heap.size, 0, rfl, fun i hi => ?_⟩⟩
  obtain rfl : i = 0 := by omega
  rw [World.cell?_alloc_at _ _ _ _ rfl]; rfl
theorem slk_ints {w : World} {base k : Nat} {a : Option Addr} {c : Nat} {l : List Int} (hr : w.ownsRow base 3 1 (.slice a k c) k (ints l)) (hk : l.length = k) : SlK .i64 w a k l := by
  rcases hr.2 with ⟨hv, rfl⟩ | ⟨g, cap, cur, hv, hb, hg, hle, hm, hs, ht⟩
  · exact ⟨hk, .inl rfl⟩
  · cases hv
    refine ⟨hk, .inr ⟨g, 0, rfl, fun i hi => ?_⟩⟩
    have hc := hr.cells (g := g) rfl i (.int .i64 (l.getD i 0)) (by simp [ints, List.getD_eq_getElem?_getD, List.getElem?_eq_getElem (show i < l.length by omega)])
    simpa [addrK_add] using hc
theorem slk_sl {w : World} {a : Option Addr} {k : Nat} {l : List Int} (h : SlK .i64 w a k l) : Pq.Sl w a k l := h
def Nw (W : World) (a : Option Addr) : Prop := ∀ y, a = some y → W.heap.size ≤ y.block
theorem nw_none (W : World) : Nw W none := fun y hy => by cases hy
theorem nw_some {W : World} {g : Nat} (h : W.heap.size + 2 ≤ g) : Nw W (some ⟨g, 0, none⟩) := fun y hy => by cases hy; show W.heap.size ≤ g; omega
def RfS (w : World) (h : Hd.H) (a0 : Option Addr) (row0 : List Int) (one row : List Int) (rows last e : Int) (out : List Int) (r : Ending) (w' : World) : Prop :=
  ∃ a1 c1 a2 c2 a c, r = .returned (.tuple #[agR h (-1) (.slice a1 one.length c1) (.slice a2 row.length c2) rows last e, .slice a out.length c]) ∧ SlK .i64 w' a1 one.length one ∧ SlK .u64 w' a2 row.length row ∧ SlK .u64 w' a out.length out ∧ Below w.heap.size w w' ∧ Nw w a1 ∧ ((a2 = a0 ∧ row = row0) ∨ Nw w a2) ∧ Nw w a
set_option maxRecDepth 100000 in
set_option maxHeartbeats 2000000 in
theorem refSample_more (h : Hd.H) (n : Int) (one row : List Int) (rows e : Int) (a1 a2 : Option Addr) (c1 c2 : Nat) (w : World) (h1 : SlK .i64 w a1 one.length one) (h2 : SlK .u64 w a2 row.length row) (ho4 : one.length ≤ 3) (hr4 : row.length ≤ 4096) (rows0 : 0 ≤ rows) (rows1 : rows ≤ 65536) (hkd : h.kd = 3) (hone : one.length + 1 < 3) :
    Calls Tryz.prog 140 #[agR h (-1) (.slice a1 one.length c1) (.slice a2 row.length c2) rows 0 e, .int .i64 n] w (RfS w h a2 row (one ++ [n]) row rows 0 e []) := by
  obtain ⟨i0, hi, hz0, hz1, hz2⟩ : ∃ i, Tryz.prog.info? 3 = some i ∧ i.zero = some (.int .i64 0) ∧ i.size = 1 ∧ i.bytes = 8 := (by have h := Tryz.info_in8; cases hh : Tryz.prog.info? 3 with | none => rw [hh] at h; cases h | some i => rw [hh] at h; simp at h; exact ⟨i, rfl, h.1, h.2.1, h.2.2⟩)
  obtain ⟨p0, pi, pz0, pz1, pz2⟩ : ∃ i, Tryz.prog.info? 55 = some i ∧ i.zero = some (.int .u64 0) ∧ i.size = 1 ∧ i.bytes = 8 := (by have h := Tryz.info_px8; cases hh : Tryz.prog.info? 55 with | none => rw [hh] at h; cases h | some i => rw [hh] at h; simp at h; exact ⟨i, rfl, h.1, h.2.1, h.2.2⟩)
  obtain ⟨k, hk⟩ : ∃ k, one.length = k := ⟨_, rfl⟩
  obtain ⟨r, hr⟩ : ∃ r, row.length = r := ⟨_, rfl⟩
  have H1 : Hid (SlK .i64 w a1 k one) := by show SlK _ _ _ _ _; rw [← hk]; exact h1
  have H2 : Hid (SlK .u64 w a2 r row) := by show SlK _ _ _ _ _; rw [← hr]; exact h2
  have HK := Lib.hid hk
  have HR := Lib.hid hr
  have hk3 : k ≤ 3 := by omega
  have hr3 : r ≤ 4096 := by omega
  rw [hk, hr]
  have HKB := Lib.hid hkd
  have hkt : ((k : Int) + 1 < 3) := by omega
  have hkd2 : decide ((k : Int) + 1 < 3) = true := decide_eq_true hkt
  have hkd3 : k + 1 < 3 := by omega
  clear hone hkd
  clear hk hr h1 h2 ho4 hr4
  unfold agR
  go_enter Tryz.func140, Tryz.ntmps140
  go_upto_region 2 with fail
  generalize hW : (w.alloc (.cells #[.int .i64 h.kd, .int .i64 h.w, .int .i64 h.h, .int .i64 h.m, .int .i64 (-1), .slice a1 k c1, .slice a2 r c2, .int .i64 rows, .int .i64 0, .int .i64 e] 178)).alloc (.cells #[.int .i64 0, .int .i64 0, .int .i64 0, .int .i64 0, .int .i64 0, .slice none 0 0, .slice none 0 0, .int .i64 0, .int .i64 0, .int .i64 0] 178) = W1
  have hz : W1.heap.size = w.heap.size + 2 := by rw [← hW]; simp
  have HB1 : Hid (RbC W1 w.heap.size h (-1) (.slice a1 k c1) (.slice a2 r c2) rows 0 e) := by show RbC _ _ _ _ _ _ _ _ _; rw [← hW]; exact (RbC.new w h (-1) (.slice a1 k c1) (.slice a2 r c2) rows 0 e).alloc _
  have HZ1 : Hid (RbC W1 (w.heap.size + 1) Hd.none 0 (.slice none 0 0) (.slice none 0 0) 0 0 0) := by show RbC _ _ _ _ _ _ _ _ _; rw [← hW]; have := RbC.new (w.alloc (.cells #[.int .i64 h.kd, .int .i64 h.w, .int .i64 h.h, .int .i64 h.m, .int .i64 (-1), .slice a1 k c1, .slice a2 r c2, .int .i64 rows, .int .i64 0, .int .i64 e] 178)) Hd.none 0 (.slice none 0 0) (.slice none 0 0) 0 0 0; rw [World.size_alloc] at this; exact this
  have HBe1 : Hid (Below w.heap.size w W1) := by show Below _ _ _; rw [← hW]; exact ((Below.refl _ w).alloc (Nat.le_refl _) _).alloc (by simp) _
  have HZ := Lib.hid hz
  have e5 := HB1.out.c5
  clear hW hz
  go_upto_region 3 with (at_builtin; refine wpList_app rfl _ _ 25 rfl (w.heap.size + 2) 3 i0 .i64 8 Tryz.underlying25 hi hz0 hz1 hz2 (.slice none 0 0) 0 [] rfl (World.ownsRow_nil _ _ _ _) a1 k c1 one rfl (H1.out.below HBe1.out) (by unfold maxLen; omega) (by omega) (by rw [HZ.out]; exact Nat.le_refl _) ?_; intro v2 w2 hown hgrow hat; rw [Nat.zero_add, List.nil_append] at hown; have HO2 := Lib.hid hown; have HG2 := Lib.hid hgrow; clear hown hgrow hat)
  have HBe2 : Hid (Below (w.heap.size + 2) W1 w2) := Lib.hid ((Below.refl _ W1).grown HG2.out (by rw [HZ.out]; exact Nat.le_refl _) (fun j ej => by cases ej))
  have hs2 : Hid (w.heap.size + 2 ≤ w2.heap.size) := Lib.hid (by have := HBe2.out.size; have := HZ.out; omega)
  clear e5
  go_upto_region 4 with (at_builtin; refine wpList_app rfl _ _ 25 rfl (w.heap.size + 2) 3 i0 .i64 8 Tryz.underlying25 hi hz0 hz1 hz2 v2 k (ints one) rfl (HO2.out.alloc _) (some ⟨w2.heap.size, 0, none⟩) 1 1 [n] rfl (slk_one _ _ _ _) (by unfold maxLen; omega) (by omega) (by have := hs2.out; simp; omega) ?_; intro v3 w3 hown hgrow hat; obtain ⟨g, cc, rfl, _, _⟩ := hown.form (by omega); have HO3 := Lib.hid hown; have HG3 := Lib.hid hgrow; clear hown hgrow hat)
  have HBe3 : Hid (Below (w.heap.size + 2) W1 w3) := Lib.hid (((HBe2.out.alloc hs2.out _)).grown HG3.out (by have := hs2.out; simp; omega) (fun j ej => (HO2.out.lt j ej).1))
  have HB3 : Hid (RbC w3 w.heap.size h (-1) (.slice a1 k c1) (.slice a2 r c2) rows 0 e) := by show RbC _ _ _ _ _ _ _ _ _; exact (HBe3.out.block _ (by omega)).trans HB1.out
  have HZ3 : Hid (RbC w3 (w.heap.size + 1) Hd.none 0 (.slice none 0 0) (.slice none 0 0) 0 0 0) := by show RbC _ _ _ _ _ _ _ _ _; exact (HBe3.out.block _ (by omega)).trans HZ1.out
  have HW3 : Hid (Below w.heap.size w w3) := Lib.hid (HBe1.out.trans (HBe3.out.mono (by omega)))
  have HS3 : Hid (SlK .i64 w3 (some ⟨g, 0, none⟩) (k + 1) (one ++ [n])) := by
    refine Lib.hid (slk_ints (base := w.heap.size + 2) (c := cc) ?_ (by rw [List.length_append, List.length_singleton, HK.out]))
    have h := HO3.out
    unfold ints; rw [List.map_append]; exact h
  have hs3 : Hid (w.heap.size + 2 ≤ w3.heap.size) := Lib.hid (by have := HBe3.out.size; have := HZ.out; omega)
  have e0 := HB3.out.c0
  clear HG2 HG3 HBe2 HO2 hs2
  have f5 := HB3.out.fr 5
  have e5 := HB3.out.c5
  have hkb : (h.kd == 3) = true := by have := HKB.out; simpa using this
  go_upto_region 6 with fail
  generalize hW : w3.setCell ⟨w.heap.size, 5, none⟩ (.slice (some ⟨g, 0, none⟩) (k + 1) cc) = w4
  have HB4 : Hid (RbC w4 w.heap.size h (-1) (.slice (some ⟨g, 0, none⟩) (k + 1) cc) (.slice a2 r c2) rows 0 e) := by show RbC _ _ _ _ _ _ _ _ _; rw [← hW]; exact HB3.out.put5 _
  have HZ4 : Hid (RbC w4 (w.heap.size + 1) Hd.none 0 (.slice none 0 0) (.slice none 0 0) 0 0 0) := by show RbC _ _ _ _ _ _ _ _ _; rw [← hW]; exact HZ3.out.other (by simp) _
  have HW4 : Hid (Below w.heap.size w w4) := by show Below _ _ _; rw [← hW]; exact HW3.out.setCell (p := ⟨w.heap.size, 5, none⟩) (Nat.le_refl _) _
  have HS4 : Hid (SlK .i64 w4 (some ⟨g, 0, none⟩) (k + 1) (one ++ [n])) := by show SlK _ _ _ _ _; rw [← hW]; exact slk_kept (b := w.heap.size) HS3.out (fun y hy => by cases hy; have := (HO3.out.lt g rfl).1; show g ≠ _; omega) (grown_set _ _ _ _)
  clear hW f5 e5 e0
  obtain ⟨b0, b1, b2, b3, b4, b5, b6, b7, b8, b9⟩ := HB4.out.cells
  obtain ⟨z0, z1, z2, z3, z4, z5, z6, z7, z8, z9⟩ := HZ4.out.cells
  obtain ⟨y0, y1, y2, y3, y4, y5, y6, y7, y8, y9⟩ := HZ4.out.frs
  have HPA := Lib.hid (HZ4.out.putAll h (-1) (.slice (some ⟨g, 0, none⟩) (k + 1) cc) (.slice a2 r c2) rows 0 e)
  go_wp2
  have GP := Lib.hid (RbC.grownAll w4 (w.heap.size + 1) h (-1) (.slice (some ⟨g, 0, none⟩) (k + 1) cc) (.slice a2 r c2) rows 0 e)
  have BP := Lib.hid ((Below.refl (w.heap.size + 1) w4).grown GP.out (by have := HZ4.out.lt; omega) (fun j ej => by cases ej; exact Nat.le_refl _))
  refine bodyPost_ret (ret_cell_tmp Tryz.results140 _ _ _ _ rfl (load_rR HPA.out)) rfl ?_
  refine ⟨some ⟨g, 0, none⟩, cc, a2, c2, none, 0, ?_, ?_, ?_, ⟨rfl, .inl rfl⟩, ?_, nw_some (HO3.out.lt g rfl).1, .inl ⟨rfl, rfl⟩, nw_none _⟩
  · rw [List.length_append, List.length_singleton, HK.out, HR.out]; rfl
  · rw [List.length_append, List.length_singleton, HK.out]; exact slk_kept (b := w.heap.size + 1) HS4.out (fun y hy => by cases hy; have := (HO3.out.lt g rfl).1; show g ≠ _; omega) GP.out
  · rw [HR.out]; exact H2.out.below (HW4.out.trans (BP.out.mono (Nat.le_succ _)))
  · exact HW4.out.trans (BP.out.mono (Nat.le_succ _))
set_option maxRecDepth 100000 in
set_option maxHeartbeats 2000000 in
theorem refSample_pixel (h : Hd.H) (n : Int) (one row : List Int) (rows e : Int) (a1 a2 : Option Addr) (c1 c2 : Nat) (w : World) (h1 : SlK .i64 w a1 one.length one) (h2 : SlK .u64 w a2 row.length row) (ho4 : one.length ≤ 3) (hr4 : row.length ≤ 4096) (rows0 : 0 ≤ rows) (rows1 : rows ≤ 65536) (hone : ¬ (h.kd = 3 ∧ one.length + 1 < 3)) (hrow : (row.length : Int) + 1 < h.w) :
    Calls Tryz.prog 140 #[agR h (-1) (.slice a1 one.length c1) (.slice a2 row.length c2) rows 0 e, .int .i64 n] w (RfS w h a2 row [] (row ++ [(Pq.Px.packV (one ++ [n])).1]) rows 0 e []) := by
  obtain ⟨i0, hi, hz0, hz1, hz2⟩ : ∃ i, Tryz.prog.info? 3 = some i ∧ i.zero = some (.int .i64 0) ∧ i.size = 1 ∧ i.bytes = 8 := (by have h := Tryz.info_in8; cases hh : Tryz.prog.info? 3 with | none => rw [hh] at h; cases h | some i => rw [hh] at h; simp at h; exact ⟨i, rfl, h.1, h.2.1, h.2.2⟩)
  obtain ⟨p0, pi, pz0, pz1, pz2⟩ : ∃ i, Tryz.prog.info? 55 = some i ∧ i.zero = some (.int .u64 0) ∧ i.size = 1 ∧ i.bytes = 8 := (by have h := Tryz.info_px8; cases hh : Tryz.prog.info? 55 with | none => rw [hh] at h; cases h | some i => rw [hh] at h; simp at h; exact ⟨i, rfl, h.1, h.2.1, h.2.2⟩)
  obtain ⟨k, hk⟩ : ∃ k, one.length = k := ⟨_, rfl⟩
  obtain ⟨r, hr⟩ : ∃ r, row.length = r := ⟨_, rfl⟩
  have H1 : Hid (SlK .i64 w a1 k one) := by show SlK _ _ _ _ _; rw [← hk]; exact h1
  have H2 : Hid (SlK .u64 w a2 r row) := by show SlK _ _ _ _ _; rw [← hr]; exact h2
  have HK := Lib.hid hk
  have HR := Lib.hid hr
  have hk3 : k ≤ 3 := by omega
  have hr3 : r ≤ 4096 := by omega
  rw [hk, hr]
  have HONE := Lib.hid hone
  have HRW := Lib.hid hrow
  clear hone hrow
  clear hk hr h1 h2 ho4 hr4
  unfold agR
  go_enter Tryz.func140, Tryz.ntmps140
  go_upto_region 2 with fail
  generalize hW : (w.alloc (.cells #[.int .i64 h.kd, .int .i64 h.w, .int .i64 h.h, .int .i64 h.m, .int .i64 (-1), .slice a1 k c1, .slice a2 r c2, .int .i64 rows, .int .i64 0, .int .i64 e] 178)).alloc (.cells #[.int .i64 0, .int .i64 0, .int .i64 0, .int .i64 0, .int .i64 0, .slice none 0 0, .slice none 0 0, .int .i64 0, .int .i64 0, .int .i64 0] 178) = W1
  have hz : W1.heap.size = w.heap.size + 2 := by rw [← hW]; simp
  have HB1 : Hid (RbC W1 w.heap.size h (-1) (.slice a1 k c1) (.slice a2 r c2) rows 0 e) := by show RbC _ _ _ _ _ _ _ _ _; rw [← hW]; exact (RbC.new w h (-1) (.slice a1 k c1) (.slice a2 r c2) rows 0 e).alloc _
  have HZ1 : Hid (RbC W1 (w.heap.size + 1) Hd.none 0 (.slice none 0 0) (.slice none 0 0) 0 0 0) := by show RbC _ _ _ _ _ _ _ _ _; rw [← hW]; have := RbC.new (w.alloc (.cells #[.int .i64 h.kd, .int .i64 h.w, .int .i64 h.h, .int .i64 h.m, .int .i64 (-1), .slice a1 k c1, .slice a2 r c2, .int .i64 rows, .int .i64 0, .int .i64 e] 178)) Hd.none 0 (.slice none 0 0) (.slice none 0 0) 0 0 0; rw [World.size_alloc] at this; exact this
  have HBe1 : Hid (Below w.heap.size w W1) := by show Below _ _ _; rw [← hW]; exact ((Below.refl _ w).alloc (Nat.le_refl _) _).alloc (by simp) _
  have HZ := Lib.hid hz
  have e5 := HB1.out.c5
  clear hW hz
  go_upto_region 3 with (at_builtin; refine wpList_app rfl _ _ 25 rfl (w.heap.size + 2) 3 i0 .i64 8 Tryz.underlying25 hi hz0 hz1 hz2 (.slice none 0 0) 0 [] rfl (World.ownsRow_nil _ _ _ _) a1 k c1 one rfl (H1.out.below HBe1.out) (by unfold maxLen; omega) (by omega) (by rw [HZ.out]; exact Nat.le_refl _) ?_; intro v2 w2 hown hgrow hat; rw [Nat.zero_add, List.nil_append] at hown; have HO2 := Lib.hid hown; have HG2 := Lib.hid hgrow; clear hown hgrow hat)
  have HBe2 : Hid (Below (w.heap.size + 2) W1 w2) := Lib.hid ((Below.refl _ W1).grown HG2.out (by rw [HZ.out]; exact Nat.le_refl _) (fun j ej => by cases ej))
  have hs2 : Hid (w.heap.size + 2 ≤ w2.heap.size) := Lib.hid (by have := HBe2.out.size; have := HZ.out; omega)
  clear e5
  go_upto_region 4 with (at_builtin; refine wpList_app rfl _ _ 25 rfl (w.heap.size + 2) 3 i0 .i64 8 Tryz.underlying25 hi hz0 hz1 hz2 v2 k (ints one) rfl (HO2.out.alloc _) (some ⟨w2.heap.size, 0, none⟩) 1 1 [n] rfl (slk_one _ _ _ _) (by unfold maxLen; omega) (by omega) (by have := hs2.out; simp; omega) ?_; intro v3 w3 hown hgrow hat; obtain ⟨g, cc, rfl, _, _⟩ := hown.form (by omega); have HO3 := Lib.hid hown; have HG3 := Lib.hid hgrow; clear hown hgrow hat)
  have HBe3 : Hid (Below (w.heap.size + 2) W1 w3) := Lib.hid (((HBe2.out.alloc hs2.out _)).grown HG3.out (by have := hs2.out; simp; omega) (fun j ej => (HO2.out.lt j ej).1))
  have HB3 : Hid (RbC w3 w.heap.size h (-1) (.slice a1 k c1) (.slice a2 r c2) rows 0 e) := by show RbC _ _ _ _ _ _ _ _ _; exact (HBe3.out.block _ (by omega)).trans HB1.out
  have HZ3 : Hid (RbC w3 (w.heap.size + 1) Hd.none 0 (.slice none 0 0) (.slice none 0 0) 0 0 0) := by show RbC _ _ _ _ _ _ _ _ _; exact (HBe3.out.block _ (by omega)).trans HZ1.out
  have HW3 : Hid (Below w.heap.size w w3) := Lib.hid (HBe1.out.trans (HBe3.out.mono (by omega)))
  have HS3 : Hid (SlK .i64 w3 (some ⟨g, 0, none⟩) (k + 1) (one ++ [n])) := by
    refine Lib.hid (slk_ints (base := w.heap.size + 2) (c := cc) ?_ (by rw [List.length_append, List.length_singleton, HK.out]))
    have h := HO3.out
    unfold ints; rw [List.map_append]; exact h
  have hs3 : Hid (w.heap.size + 2 ≤ w3.heap.size) := Lib.hid (by have := HBe3.out.size; have := HZ.out; omega)
  have e0 := HB3.out.c0
  clear HG2 HG3 HBe2 HO2 hs2
  have HNG : Hid ((h.kd == 3) = false ∨ ((h.kd == 3) = true ∧ ¬ (k + 1 < 3))) := by
    have := HONE.out; rw [HK.out] at this
    by_cases e : h.kd = 3
    · exact .inr ⟨by simpa using e, fun h => this ⟨e, h⟩⟩
    · exact .inl (by simpa using e)
  obtain ⟨p, hp⟩ : ∃ p, Pq.Px.packV (one ++ [n]) = p := ⟨_, rfl⟩
  have HP := Lib.hid hp
  have HPK : Hid (∀ W, Pq.Sl W (some ⟨g, 0, none⟩) (k + 1) (one ++ [n]) → Calls Tryz.prog 75 #[.slice (some ⟨g, 0, none⟩) (k + 1) cc] W fun e w' => e = .returned (.tuple #[.int .u64 p.1, .int .i64 p.2]) ∧ W = w') := fun W hs => by
    have h := Pq.refPack_any (some ⟨g, 0, none⟩) (k + 1) cc (one ++ [n]) W (by omega) hs
    rw [hp] at h; exact h
  have HGB : Hid (w.heap.size + 2 ≤ g) := Lib.hid (HO3.out.lt g rfl).1
  clear hp
  go_cut [26] (fun s26 wx => s26 = .bool false ∧ w3 = wx)
  case first =>
    rcases HNG.out with h | ⟨h, h'⟩
    · go_wp2_with fail
      go_meet
      case rel => exact ⟨rfl, rfl⟩
    · have h2 : ¬ (k : Int) + 1 < 3 := by omega
      have h3 : decide ((k : Int) + 1 < 3) = false := decide_eq_false h2
      go_wp2_with fail
      go_meet
      case rel => exact ⟨rfl, rfl⟩
  case rest =>
    obtain ⟨rfl, rfl⟩ := hcut
    have f5 := HB3.out.fr 5
    have e5 := HB3.out.c5
    clear e0
    go_upto_region 8 with fail
    generalize hW : w3.setCell ⟨w.heap.size, 5, none⟩ (.slice none 0 0) = w4
    have HB4 : Hid (RbC w4 w.heap.size h (-1) (.slice none 0 0) (.slice a2 r c2) rows 0 e) := by show RbC _ _ _ _ _ _ _ _ _; rw [← hW]; exact HB3.out.put5 _
    have HZ4 : Hid (RbC w4 (w.heap.size + 1) Hd.none 0 (.slice none 0 0) (.slice none 0 0) 0 0 0) := by show RbC _ _ _ _ _ _ _ _ _; rw [← hW]; exact HZ3.out.other (by simp) _
    have HW4 : Hid (Below w.heap.size w w4) := by show Below _ _ _; rw [← hW]; exact HW3.out.setCell (p := ⟨w.heap.size, 5, none⟩) (Nat.le_refl _) _
    have HS4 : Hid (SlK .i64 w4 (some ⟨g, 0, none⟩) (k + 1) (one ++ [n])) := by show SlK _ _ _ _ _; rw [← hW]; exact slk_kept (b := w.heap.size) HS3.out (fun y hy => by cases hy; have := HGB.out; show g ≠ _; omega) (grown_set _ _ _ _)
    have hs4 : Hid (w.heap.size + 2 ≤ w4.heap.size) := by show _ ≤ _; rw [← hW]; have := hs3.out; simpa [World.setCell] using this
    clear hW f5 e5 HB3 HZ3 HW3 HS3
    go_upto_region 10 with (go_at_call 75; refine (HPK.out _ (slk_sl HS4.out)).mono ?_; rintro e w9 ⟨rfl, rfl⟩)
    have e6 := HB4.out.c6
    go_upto_region 11 with (at_builtin; refine wpList_app rfl _ _ 30 rfl (w.heap.size + 2) 55 p0 .u64 8 Tryz.underlying30 pi pz0 pz1 pz2 (.slice none 0 0) 0 [] rfl (World.ownsRow_nil _ _ _ _) a2 r c2 row rfl (H2.out.below HW4.out) (by unfold maxLen; omega) (by omega) hs4.out ?_; intro v5 w5 hown hgrow hat; rw [Nat.zero_add, List.nil_append] at hown; have HO5 := Lib.hid hown; have HG5 := Lib.hid hgrow; clear hown hgrow hat)
    have HBe5 : Hid (Below (w.heap.size + 2) w4 w5) := Lib.hid ((Below.refl _ w4).grown HG5.out hs4.out (fun j ej => by cases ej))
    have hs5 : Hid (w.heap.size + 2 ≤ w5.heap.size) := Lib.hid (by have := HBe5.out.size; have := hs4.out; omega)
    clear e6
    go_upto_region 12 with (at_builtin; refine wpList_app rfl _ _ 30 rfl (w.heap.size + 2) 55 p0 .u64 8 Tryz.underlying30 pi pz0 pz1 pz2 v5 r (pixs row) rfl (HO5.out.alloc _) (some ⟨w5.heap.size, 0, none⟩) 1 1 [p.1] rfl (slk_one _ _ _ _) (by unfold maxLen; omega) (by omega) (by have := hs5.out; simp; omega) ?_; intro v6 w6 hown hgrow hat; obtain ⟨g6, c6, rfl, _, _⟩ := hown.form (by omega); have HO6 := Lib.hid hown; have HG6 := Lib.hid hgrow; clear hown hgrow hat)
    have HBe6 : Hid (Below (w.heap.size + 2) w4 w6) := Lib.hid (((HBe5.out.alloc hs5.out _)).grown HG6.out (by have := hs5.out; simp; omega) (fun j ej => (HO5.out.lt j ej).1))
    have HB6 : Hid (RbC w6 w.heap.size h (-1) (.slice none 0 0) (.slice a2 r c2) rows 0 e) := by show RbC _ _ _ _ _ _ _ _ _; exact (HBe6.out.block _ (by omega)).trans HB4.out
    have HZ6 : Hid (RbC w6 (w.heap.size + 1) Hd.none 0 (.slice none 0 0) (.slice none 0 0) 0 0 0) := by show RbC _ _ _ _ _ _ _ _ _; exact (HBe6.out.block _ (by omega)).trans HZ4.out
    have HW6 : Hid (Below w.heap.size w w6) := Lib.hid (HW4.out.trans (HBe6.out.mono (by omega)))
    have HS6 : Hid (SlK .u64 w6 (some ⟨g6, 0, none⟩) (r + 1) (row ++ [p.1])) := by
      refine Lib.hid (slk_of_row (base := w.heap.size + 2) (c := c6) ?_ (by rw [List.length_append, List.length_singleton, HR.out]))
      have h := HO6.out
      unfold pixs; rw [List.map_append]; exact h
    have HGC : Hid (w.heap.size + 2 ≤ g6) := Lib.hid (HO6.out.lt g6 rfl).1
    have e1 := HB6.out.c1
    have e6 := HB6.out.c6
    have f6 := HB6.out.fr 6
    clear HG5 HG6 HBe5 HO5 hs5 HO6 HBe6
    have hrp : (r : Int) + 1 < h.w := by have := HRW.out; rw [HR.out] at this; exact this
    have hrd : decide ((r : Int) + 1 < h.w) = true := decide_eq_true hrp
    go_upto_region 14 with fail
    generalize hW : w6.setCell ⟨w.heap.size, 6, none⟩ (.slice (some ⟨g6, 0, none⟩) (r + 1) c6) = w7
    have HB7 : Hid (RbC w7 w.heap.size h (-1) (.slice none 0 0) (.slice (some ⟨g6, 0, none⟩) (r + 1) c6) rows 0 e) := by show RbC _ _ _ _ _ _ _ _ _; rw [← hW]; exact HB6.out.put6 _
    have HZ7 : Hid (RbC w7 (w.heap.size + 1) Hd.none 0 (.slice none 0 0) (.slice none 0 0) 0 0 0) := by show RbC _ _ _ _ _ _ _ _ _; rw [← hW]; exact HZ6.out.other (by simp) _
    have HW7 : Hid (Below w.heap.size w w7) := by show Below _ _ _; rw [← hW]; exact HW6.out.setCell (p := ⟨w.heap.size, 6, none⟩) (Nat.le_refl _) _
    have HS7 : Hid (SlK .u64 w7 (some ⟨g6, 0, none⟩) (r + 1) (row ++ [p.1])) := by show SlK _ _ _ _ _; rw [← hW]; exact slk_kept (b := w.heap.size) HS6.out (fun y hy => by cases hy; have := HGC.out; show g6 ≠ _; omega) (grown_set _ _ _ _)
    clear hW e1 e6 f6 hrp hrd HB6 HZ6 HW6 HS6
    obtain ⟨b0, b1, b2, b3, b4, b5, b6, b7, b8, b9⟩ := HB7.out.cells
    obtain ⟨z0, z1, z2, z3, z4, z5, z6, z7, z8, z9⟩ := HZ7.out.cells
    obtain ⟨y0, y1, y2, y3, y4, y5, y6, y7, y8, y9⟩ := HZ7.out.frs
    have HPA := Lib.hid (HZ7.out.putAll h (-1) (.slice none 0 0) (.slice (some ⟨g6, 0, none⟩) (r + 1) c6) rows 0 e)
    go_wp2
    have GP := Lib.hid (RbC.grownAll w7 (w.heap.size + 1) h (-1) (.slice none 0 0) (.slice (some ⟨g6, 0, none⟩) (r + 1) c6) rows 0 e)
    have BP := Lib.hid ((Below.refl (w.heap.size + 1) w7).grown GP.out (by have := HZ7.out.lt; omega) (fun j ej => by cases ej; exact Nat.le_refl _))
    refine bodyPost_ret (ret_cell_tmp Tryz.results140 _ _ _ _ rfl (load_rR HPA.out)) rfl ?_
    refine ⟨none, 0, some ⟨g6, 0, none⟩, c6, none, 0, ?_, ⟨rfl, .inl rfl⟩, ?_, ⟨rfl, .inl rfl⟩, ?_, nw_none _, .inr (nw_some HGC.out), nw_none _⟩
    · rw [HP.out, List.length_append, List.length_singleton, HR.out]; rfl
    · rw [HP.out, List.length_append, List.length_singleton, HR.out]; exact slk_kept (b := w.heap.size + 1) HS7.out (fun y hy => by cases hy; have := HGC.out; show g6 ≠ _; omega) GP.out
    · exact HW7.out.trans (BP.out.mono (Nat.le_succ _))
set_option maxRecDepth 100000 in
set_option maxHeartbeats 2000000 in
theorem refSample_row (h : Hd.H) (n : Int) (one row : List Int) (rows e : Int) (a1 a2 : Option Addr) (c1 c2 : Nat) (w : World) (h1 : SlK .i64 w a1 one.length one) (h2 : SlK .u64 w a2 row.length row) (ho4 : one.length ≤ 3) (hr4 : row.length ≤ 4096) (rows0 : 0 ≤ rows) (rows1 : rows ≤ 65536) (hone : ¬ (h.kd = 3 ∧ one.length + 1 < 3)) (hrow : ¬ (row.length : Int) + 1 < h.w) (hrows : ¬ rows + 1 = h.h) :
    Calls Tryz.prog 140 #[agR h (-1) (.slice a1 one.length c1) (.slice a2 row.length c2) rows 0 e, .int .i64 n] w (RfS w h a2 row [] [] (rows + 1) 0 e (row ++ [(Pq.Px.packV (one ++ [n])).1])) := by
  obtain ⟨i0, hi, hz0, hz1, hz2⟩ : ∃ i, Tryz.prog.info? 3 = some i ∧ i.zero = some (.int .i64 0) ∧ i.size = 1 ∧ i.bytes = 8 := (by have h := Tryz.info_in8; cases hh : Tryz.prog.info? 3 with | none => rw [hh] at h; cases h | some i => rw [hh] at h; simp at h; exact ⟨i, rfl, h.1, h.2.1, h.2.2⟩)
  obtain ⟨p0, pi, pz0, pz1, pz2⟩ : ∃ i, Tryz.prog.info? 55 = some i ∧ i.zero = some (.int .u64 0) ∧ i.size = 1 ∧ i.bytes = 8 := (by have h := Tryz.info_px8; cases hh : Tryz.prog.info? 55 with | none => rw [hh] at h; cases h | some i => rw [hh] at h; simp at h; exact ⟨i, rfl, h.1, h.2.1, h.2.2⟩)
  obtain ⟨k, hk⟩ : ∃ k, one.length = k := ⟨_, rfl⟩
  obtain ⟨r, hr⟩ : ∃ r, row.length = r := ⟨_, rfl⟩
  have H1 : Hid (SlK .i64 w a1 k one) := by show SlK _ _ _ _ _; rw [← hk]; exact h1
  have H2 : Hid (SlK .u64 w a2 r row) := by show SlK _ _ _ _ _; rw [← hr]; exact h2
  have HK := Lib.hid hk
  have HR := Lib.hid hr
  have hk3 : k ≤ 3 := by omega
  have hr3 : r ≤ 4096 := by omega
  rw [hk, hr]
  have HONE := Lib.hid hone
  have HRW := Lib.hid hrow
  clear hone hrow
  have HRS := Lib.hid hrows
  clear hrows
  clear hk hr h1 h2 ho4 hr4
  unfold agR
  go_enter Tryz.func140, Tryz.ntmps140
  go_upto_region 2 with fail
  generalize hW : (w.alloc (.cells #[.int .i64 h.kd, .int .i64 h.w, .int .i64 h.h, .int .i64 h.m, .int .i64 (-1), .slice a1 k c1, .slice a2 r c2, .int .i64 rows, .int .i64 0, .int .i64 e] 178)).alloc (.cells #[.int .i64 0, .int .i64 0, .int .i64 0, .int .i64 0, .int .i64 0, .slice none 0 0, .slice none 0 0, .int .i64 0, .int .i64 0, .int .i64 0] 178) = W1
  have hz : W1.heap.size = w.heap.size + 2 := by rw [← hW]; simp
  have HB1 : Hid (RbC W1 w.heap.size h (-1) (.slice a1 k c1) (.slice a2 r c2) rows 0 e) := by show RbC _ _ _ _ _ _ _ _ _; rw [← hW]; exact (RbC.new w h (-1) (.slice a1 k c1) (.slice a2 r c2) rows 0 e).alloc _
  have HZ1 : Hid (RbC W1 (w.heap.size + 1) Hd.none 0 (.slice none 0 0) (.slice none 0 0) 0 0 0) := by show RbC _ _ _ _ _ _ _ _ _; rw [← hW]; have := RbC.new (w.alloc (.cells #[.int .i64 h.kd, .int .i64 h.w, .int .i64 h.h, .int .i64 h.m, .int .i64 (-1), .slice a1 k c1, .slice a2 r c2, .int .i64 rows, .int .i64 0, .int .i64 e] 178)) Hd.none 0 (.slice none 0 0) (.slice none 0 0) 0 0 0; rw [World.size_alloc] at this; exact this
  have HBe1 : Hid (Below w.heap.size w W1) := by show Below _ _ _; rw [← hW]; exact ((Below.refl _ w).alloc (Nat.le_refl _) _).alloc (by simp) _
  have HZ := Lib.hid hz
  have e5 := HB1.out.c5
  clear hW hz
  go_upto_region 3 with (at_builtin; refine wpList_app rfl _ _ 25 rfl (w.heap.size + 2) 3 i0 .i64 8 Tryz.underlying25 hi hz0 hz1 hz2 (.slice none 0 0) 0 [] rfl (World.ownsRow_nil _ _ _ _) a1 k c1 one rfl (H1.out.below HBe1.out) (by unfold maxLen; omega) (by omega) (by rw [HZ.out]; exact Nat.le_refl _) ?_; intro v2 w2 hown hgrow hat; rw [Nat.zero_add, List.nil_append] at hown; have HO2 := Lib.hid hown; have HG2 := Lib.hid hgrow; clear hown hgrow hat)
  have HBe2 : Hid (Below (w.heap.size + 2) W1 w2) := Lib.hid ((Below.refl _ W1).grown HG2.out (by rw [HZ.out]; exact Nat.le_refl _) (fun j ej => by cases ej))
  have hs2 : Hid (w.heap.size + 2 ≤ w2.heap.size) := Lib.hid (by have := HBe2.out.size; have := HZ.out; omega)
  clear e5
  go_upto_region 4 with (at_builtin; refine wpList_app rfl _ _ 25 rfl (w.heap.size + 2) 3 i0 .i64 8 Tryz.underlying25 hi hz0 hz1 hz2 v2 k (ints one) rfl (HO2.out.alloc _) (some ⟨w2.heap.size, 0, none⟩) 1 1 [n] rfl (slk_one _ _ _ _) (by unfold maxLen; omega) (by omega) (by have := hs2.out; simp; omega) ?_; intro v3 w3 hown hgrow hat; obtain ⟨g, cc, rfl, _, _⟩ := hown.form (by omega); have HO3 := Lib.hid hown; have HG3 := Lib.hid hgrow; clear hown hgrow hat)
  have HBe3 : Hid (Below (w.heap.size + 2) W1 w3) := Lib.hid (((HBe2.out.alloc hs2.out _)).grown HG3.out (by have := hs2.out; simp; omega) (fun j ej => (HO2.out.lt j ej).1))
  have HB3 : Hid (RbC w3 w.heap.size h (-1) (.slice a1 k c1) (.slice a2 r c2) rows 0 e) := by show RbC _ _ _ _ _ _ _ _ _; exact (HBe3.out.block _ (by omega)).trans HB1.out
  have HZ3 : Hid (RbC w3 (w.heap.size + 1) Hd.none 0 (.slice none 0 0) (.slice none 0 0) 0 0 0) := by show RbC _ _ _ _ _ _ _ _ _; exact (HBe3.out.block _ (by omega)).trans HZ1.out
  have HW3 : Hid (Below w.heap.size w w3) := Lib.hid (HBe1.out.trans (HBe3.out.mono (by omega)))
  have HS3 : Hid (SlK .i64 w3 (some ⟨g, 0, none⟩) (k + 1) (one ++ [n])) := by
    refine Lib.hid (slk_ints (base := w.heap.size + 2) (c := cc) ?_ (by rw [List.length_append, List.length_singleton, HK.out]))
    have h := HO3.out
    unfold ints; rw [List.map_append]; exact h
  have hs3 : Hid (w.heap.size + 2 ≤ w3.heap.size) := Lib.hid (by have := HBe3.out.size; have := HZ.out; omega)
  have e0 := HB3.out.c0
  clear HG2 HG3 HBe2 HO2 hs2
  have HNG : Hid ((h.kd == 3) = false ∨ ((h.kd == 3) = true ∧ ¬ (k + 1 < 3))) := by
    have := HONE.out; rw [HK.out] at this
    by_cases e : h.kd = 3
    · exact .inr ⟨by simpa using e, fun h => this ⟨e, h⟩⟩
    · exact .inl (by simpa using e)
  obtain ⟨p, hp⟩ : ∃ p, Pq.Px.packV (one ++ [n]) = p := ⟨_, rfl⟩
  have HP := Lib.hid hp
  have HPK : Hid (∀ W, Pq.Sl W (some ⟨g, 0, none⟩) (k + 1) (one ++ [n]) → Calls Tryz.prog 75 #[.slice (some ⟨g, 0, none⟩) (k + 1) cc] W fun e w' => e = .returned (.tuple #[.int .u64 p.1, .int .i64 p.2]) ∧ W = w') := fun W hs => by
    have h := Pq.refPack_any (some ⟨g, 0, none⟩) (k + 1) cc (one ++ [n]) W (by omega) hs
    rw [hp] at h; exact h
  have HGB : Hid (w.heap.size + 2 ≤ g) := Lib.hid (HO3.out.lt g rfl).1
  clear hp
  go_cut [26] (fun s26 wx => s26 = .bool false ∧ w3 = wx)
  case first =>
    rcases HNG.out with h | ⟨h, h'⟩
    · go_wp2_with fail
      go_meet
      case rel => exact ⟨rfl, rfl⟩
    · have h2 : ¬ (k : Int) + 1 < 3 := by omega
      have h3 : decide ((k : Int) + 1 < 3) = false := decide_eq_false h2
      go_wp2_with fail
      go_meet
      case rel => exact ⟨rfl, rfl⟩
  case rest =>
    obtain ⟨rfl, rfl⟩ := hcut
    have f5 := HB3.out.fr 5
    have e5 := HB3.out.c5
    clear e0
    go_upto_region 8 with fail
    generalize hW : w3.setCell ⟨w.heap.size, 5, none⟩ (.slice none 0 0) = w4
    have HB4 : Hid (RbC w4 w.heap.size h (-1) (.slice none 0 0) (.slice a2 r c2) rows 0 e) := by show RbC _ _ _ _ _ _ _ _ _; rw [← hW]; exact HB3.out.put5 _
    have HZ4 : Hid (RbC w4 (w.heap.size + 1) Hd.none 0 (.slice none 0 0) (.slice none 0 0) 0 0 0) := by show RbC _ _ _ _ _ _ _ _ _; rw [← hW]; exact HZ3.out.other (by simp) _
    have HW4 : Hid (Below w.heap.size w w4) := by show Below _ _ _; rw [← hW]; exact HW3.out.setCell (p := ⟨w.heap.size, 5, none⟩) (Nat.le_refl _) _
    have HS4 : Hid (SlK .i64 w4 (some ⟨g, 0, none⟩) (k + 1) (one ++ [n])) := by show SlK _ _ _ _ _; rw [← hW]; exact slk_kept (b := w.heap.size) HS3.out (fun y hy => by cases hy; have := HGB.out; show g ≠ _; omega) (grown_set _ _ _ _)
    have hs4 : Hid (w.heap.size + 2 ≤ w4.heap.size) := by show _ ≤ _; rw [← hW]; have := hs3.out; simpa [World.setCell] using this
    clear hW f5 e5 HB3 HZ3 HW3 HS3
    go_upto_region 10 with (go_at_call 75; refine (HPK.out _ (slk_sl HS4.out)).mono ?_; rintro e w9 ⟨rfl, rfl⟩)
    have e6 := HB4.out.c6
    go_upto_region 11 with (at_builtin; refine wpList_app rfl _ _ 30 rfl (w.heap.size + 2) 55 p0 .u64 8 Tryz.underlying30 pi pz0 pz1 pz2 (.slice none 0 0) 0 [] rfl (World.ownsRow_nil _ _ _ _) a2 r c2 row rfl (H2.out.below HW4.out) (by unfold maxLen; omega) (by omega) hs4.out ?_; intro v5 w5 hown hgrow hat; rw [Nat.zero_add, List.nil_append] at hown; have HO5 := Lib.hid hown; have HG5 := Lib.hid hgrow; clear hown hgrow hat)
    have HBe5 : Hid (Below (w.heap.size + 2) w4 w5) := Lib.hid ((Below.refl _ w4).grown HG5.out hs4.out (fun j ej => by cases ej))
    have hs5 : Hid (w.heap.size + 2 ≤ w5.heap.size) := Lib.hid (by have := HBe5.out.size; have := hs4.out; omega)
    clear e6
    go_upto_region 12 with (at_builtin; refine wpList_app rfl _ _ 30 rfl (w.heap.size + 2) 55 p0 .u64 8 Tryz.underlying30 pi pz0 pz1 pz2 v5 r (pixs row) rfl (HO5.out.alloc _) (some ⟨w5.heap.size, 0, none⟩) 1 1 [p.1] rfl (slk_one _ _ _ _) (by unfold maxLen; omega) (by omega) (by have := hs5.out; simp; omega) ?_; intro v6 w6 hown hgrow hat; obtain ⟨g6, c6, rfl, _, _⟩ := hown.form (by omega); have HO6 := Lib.hid hown; have HG6 := Lib.hid hgrow; clear hown hgrow hat)
    have HBe6 : Hid (Below (w.heap.size + 2) w4 w6) := Lib.hid (((HBe5.out.alloc hs5.out _)).grown HG6.out (by have := hs5.out; simp; omega) (fun j ej => (HO5.out.lt j ej).1))
    have HB6 : Hid (RbC w6 w.heap.size h (-1) (.slice none 0 0) (.slice a2 r c2) rows 0 e) := by show RbC _ _ _ _ _ _ _ _ _; exact (HBe6.out.block _ (by omega)).trans HB4.out
    have HZ6 : Hid (RbC w6 (w.heap.size + 1) Hd.none 0 (.slice none 0 0) (.slice none 0 0) 0 0 0) := by show RbC _ _ _ _ _ _ _ _ _; exact (HBe6.out.block _ (by omega)).trans HZ4.out
    have HW6 : Hid (Below w.heap.size w w6) := Lib.hid (HW4.out.trans (HBe6.out.mono (by omega)))
    have HS6 : Hid (SlK .u64 w6 (some ⟨g6, 0, none⟩) (r + 1) (row ++ [p.1])) := by
      refine Lib.hid (slk_of_row (base := w.heap.size + 2) (c := c6) ?_ (by rw [List.length_append, List.length_singleton, HR.out]))
      have h := HO6.out
      unfold pixs; rw [List.map_append]; exact h
    have HGC : Hid (w.heap.size + 2 ≤ g6) := Lib.hid (HO6.out.lt g6 rfl).1
    have e1 := HB6.out.c1
    have e6 := HB6.out.c6
    have f6 := HB6.out.fr 6
    clear HG5 HG6 HBe5 HO5 hs5 HO6 HBe6
    have hrp : ¬ (r : Int) + 1 < h.w := by have := HRW.out; rw [HR.out] at this; omega
    have hrd : decide ((r : Int) + 1 < h.w) = false := decide_eq_false hrp
    have e7 := HB6.out.c7
    have f7 := HB6.out.fr 7
    have g1 : wrap64 (rows + 1) = rows + 1 := by rw [IntWalk.wrap64_in] <;> omega
    go_upto_region 17 with fail
    generalize hW : (w6.setCell ⟨w.heap.size, 6, none⟩ (.slice none 0 0)).setCell ⟨w.heap.size, 7, none⟩ (.int .i64 (rows + 1)) = w7
    have HB7 : Hid (RbC w7 w.heap.size h (-1) (.slice none 0 0) (.slice none 0 0) (rows + 1) 0 e) := by show RbC _ _ _ _ _ _ _ _ _; rw [← hW]; exact (HB6.out.put6 _).put7 _
    have HZ7 : Hid (RbC w7 (w.heap.size + 1) Hd.none 0 (.slice none 0 0) (.slice none 0 0) 0 0 0) := by show RbC _ _ _ _ _ _ _ _ _; rw [← hW]; exact (HZ6.out.other (by simp) _).other (by simp) _
    have HW7 : Hid (Below w.heap.size w w7) := by show Below _ _ _; rw [← hW]; exact (HW6.out.setCell (p := ⟨w.heap.size, 6, none⟩) (Nat.le_refl _) _).setCell (p := ⟨w.heap.size, 7, none⟩) (Nat.le_refl _) _
    have HS7 : Hid (SlK .u64 w7 (some ⟨g6, 0, none⟩) (r + 1) (row ++ [p.1])) := by show SlK _ _ _ _ _; rw [← hW]; exact slk_kept (b := w.heap.size) HS6.out (fun y hy => by cases hy; have := HGC.out; show g6 ≠ _; omega) ((grown_set _ _ _ _).trans (grown_set _ _ _ _))
    have e2 := HB7.out.c2
    have e7 := HB7.out.c7
    clear hW e1 e6 f6 f7 hrp hrd HB6 HZ6 HW6 HS6
    have hq : (rows + 1 == h.h) = false := by have := HRS.out; simpa using this
    go_upto_region 19 with fail
    clear e2 e7 hq
    obtain ⟨b0, b1, b2, b3, b4, b5, b6, b7, b8, b9⟩ := HB7.out.cells
    obtain ⟨z0, z1, z2, z3, z4, z5, z6, z7, z8, z9⟩ := HZ7.out.cells
    obtain ⟨y0, y1, y2, y3, y4, y5, y6, y7, y8, y9⟩ := HZ7.out.frs
    have HPA := Lib.hid (HZ7.out.putAll h (-1) (.slice none 0 0) (.slice none 0 0) (rows + 1) 0 e)
    go_wp2
    have GP := Lib.hid (RbC.grownAll w7 (w.heap.size + 1) h (-1) (.slice none 0 0) (.slice none 0 0) (rows + 1) 0 e)
    have BP := Lib.hid ((Below.refl (w.heap.size + 1) w7).grown GP.out (by have := HZ7.out.lt; omega) (fun j ej => by cases ej; exact Nat.le_refl _))
    refine bodyPost_ret (ret_cell_tmp Tryz.results140 _ _ _ _ rfl (load_rR HPA.out)) rfl ?_
    refine ⟨none, 0, none, 0, some ⟨g6, 0, none⟩, c6, ?_, ⟨rfl, .inl rfl⟩, ⟨rfl, .inl rfl⟩, ?_, ?_, nw_none _, .inr (nw_none _), nw_some HGC.out⟩
    · rw [HP.out, List.length_append, List.length_singleton, HR.out]; rfl
    · rw [HP.out, List.length_append, List.length_singleton, HR.out]; exact slk_kept (b := w.heap.size + 1) HS7.out (fun y hy => by cases hy; have := HGC.out; show g6 ≠ _; omega) GP.out
    · exact HW7.out.trans (BP.out.mono (Nat.le_succ _))
set_option maxRecDepth 100000 in
set_option maxHeartbeats 2000000 in
theorem refSample_over (h : Hd.H) (n : Int) (one row : List Int) (rows e : Int) (a1 a2 : Option Addr) (c1 c2 : Nat) (w : World) (h1 : SlK .i64 w a1 one.length one) (h2 : SlK .u64 w a2 row.length row) (ho4 : one.length ≤ 3) (hr4 : row.length ≤ 4096) (rows0 : 0 ≤ rows) (rows1 : rows ≤ 65536) (hone : ¬ (h.kd = 3 ∧ one.length + 1 < 3)) (hrow : ¬ (row.length : Int) + 1 < h.w) (hrows : rows + 1 = h.h) :
    Calls Tryz.prog 140 #[agR h (-1) (.slice a1 one.length c1) (.slice a2 row.length c2) rows 0 e, .int .i64 n] w (RfS w h a2 row [] [] (rows + 1) 1 e (row ++ [(Pq.Px.packV (one ++ [n])).1])) := by
  obtain ⟨i0, hi, hz0, hz1, hz2⟩ : ∃ i, Tryz.prog.info? 3 = some i ∧ i.zero = some (.int .i64 0) ∧ i.size = 1 ∧ i.bytes = 8 := (by have h := Tryz.info_in8; cases hh : Tryz.prog.info? 3 with | none => rw [hh] at h; cases h | some i => rw [hh] at h; simp at h; exact ⟨i, rfl, h.1, h.2.1, h.2.2⟩)
  obtain ⟨p0, pi, pz0, pz1, pz2⟩ : ∃ i, Tryz.prog.info? 55 = some i ∧ i.zero = some (.int .u64 0) ∧ i.size = 1 ∧ i.bytes = 8 := (by have h := Tryz.info_px8; cases hh : Tryz.prog.info? 55 with | none => rw [hh] at h; cases h | some i => rw [hh] at h; simp at h; exact ⟨i, rfl, h.1, h.2.1, h.2.2⟩)
  obtain ⟨k, hk⟩ : ∃ k, one.length = k := ⟨_, rfl⟩
  obtain ⟨r, hr⟩ : ∃ r, row.length = r := ⟨_, rfl⟩
  have H1 : Hid (SlK .i64 w a1 k one) := by show SlK _ _ _ _ _; rw [← hk]; exact h1
  have H2 : Hid (SlK .u64 w a2 r row) := by show SlK _ _ _ _ _; rw [← hr]; exact h2
  have HK := Lib.hid hk
  have HR := Lib.hid hr
  have hk3 : k ≤ 3 := by omega
  have hr3 : r ≤ 4096 := by omega
  rw [hk, hr]
  have HONE := Lib.hid hone
  have HRW := Lib.hid hrow
  clear hone hrow
  have HRS := Lib.hid hrows
  clear hrows
  clear hk hr h1 h2 ho4 hr4
  unfold agR
  go_enter Tryz.func140, Tryz.ntmps140
  go_upto_region 2 with fail
  generalize hW : (w.alloc (.cells #[.int .i64 h.kd, .int .i64 h.w, .int .i64 h.h, .int .i64 h.m, .int .i64 (-1), .slice a1 k c1, .slice a2 r c2, .int .i64 rows, .int .i64 0, .int .i64 e] 178)).alloc (.cells #[.int .i64 0, .int .i64 0, .int .i64 0, .int .i64 0, .int .i64 0, .slice none 0 0, .slice none 0 0, .int .i64 0, .int .i64 0, .int .i64 0] 178) = W1
  have hz : W1.heap.size = w.heap.size + 2 := by rw [← hW]; simp
  have HB1 : Hid (RbC W1 w.heap.size h (-1) (.slice a1 k c1) (.slice a2 r c2) rows 0 e) := by show RbC _ _ _ _ _ _ _ _ _; rw [← hW]; exact (RbC.new w h (-1) (.slice a1 k c1) (.slice a2 r c2) rows 0 e).alloc _
  have HZ1 : Hid (RbC W1 (w.heap.size + 1) Hd.none 0 (.slice none 0 0) (.slice none 0 0) 0 0 0) := by show RbC _ _ _ _ _ _ _ _ _; rw [← hW]; have := RbC.new (w.alloc (.cells #[.int .i64 h.kd, .int .i64 h.w, .int .i64 h.h, .int .i64 h.m, .int .i64 (-1), .slice a1 k c1, .slice a2 r c2, .int .i64 rows, .int .i64 0, .int .i64 e] 178)) Hd.none 0 (.slice none 0 0) (.slice none 0 0) 0 0 0; rw [World.size_alloc] at this; exact this
  have HBe1 : Hid (Below w.heap.size w W1) := by show Below _ _ _; rw [← hW]; exact ((Below.refl _ w).alloc (Nat.le_refl _) _).alloc (by simp) _
  have HZ := Lib.hid hz
  have e5 := HB1.out.c5
  clear hW hz
  go_upto_region 3 with (at_builtin; refine wpList_app rfl _ _ 25 rfl (w.heap.size + 2) 3 i0 .i64 8 Tryz.underlying25 hi hz0 hz1 hz2 (.slice none 0 0) 0 [] rfl (World.ownsRow_nil _ _ _ _) a1 k c1 one rfl (H1.out.below HBe1.out) (by unfold maxLen; omega) (by omega) (by rw [HZ.out]; exact Nat.le_refl _) ?_; intro v2 w2 hown hgrow hat; rw [Nat.zero_add, List.nil_append] at hown; have HO2 := Lib.hid hown; have HG2 := Lib.hid hgrow; clear hown hgrow hat)
  have HBe2 : Hid (Below (w.heap.size + 2) W1 w2) := Lib.hid ((Below.refl _ W1).grown HG2.out (by rw [HZ.out]; exact Nat.le_refl _) (fun j ej => by cases ej))
  have hs2 : Hid (w.heap.size + 2 ≤ w2.heap.size) := Lib.hid (by have := HBe2.out.size; have := HZ.out; omega)
  clear e5
  go_upto_region 4 with (at_builtin; refine wpList_app rfl _ _ 25 rfl (w.heap.size + 2) 3 i0 .i64 8 Tryz.underlying25 hi hz0 hz1 hz2 v2 k (ints one) rfl (HO2.out.alloc _) (some ⟨w2.heap.size, 0, none⟩) 1 1 [n] rfl (slk_one _ _ _ _) (by unfold maxLen; omega) (by omega) (by have := hs2.out; simp; omega) ?_; intro v3 w3 hown hgrow hat; obtain ⟨g, cc, rfl, _, _⟩ := hown.form (by omega); have HO3 := Lib.hid hown; have HG3 := Lib.hid hgrow; clear hown hgrow hat)
  have HBe3 : Hid (Below (w.heap.size + 2) W1 w3) := Lib.hid (((HBe2.out.alloc hs2.out _)).grown HG3.out (by have := hs2.out; simp; omega) (fun j ej => (HO2.out.lt j ej).1))
  have HB3 : Hid (RbC w3 w.heap.size h (-1) (.slice a1 k c1) (.slice a2 r c2) rows 0 e) := by show RbC _ _ _ _ _ _ _ _ _; exact (HBe3.out.block _ (by omega)).trans HB1.out
  have HZ3 : Hid (RbC w3 (w.heap.size + 1) Hd.none 0 (.slice none 0 0) (.slice none 0 0) 0 0 0) := by show RbC _ _ _ _ _ _ _ _ _; exact (HBe3.out.block _ (by omega)).trans HZ1.out
  have HW3 : Hid (Below w.heap.size w w3) := Lib.hid (HBe1.out.trans (HBe3.out.mono (by omega)))
  have HS3 : Hid (SlK .i64 w3 (some ⟨g, 0, none⟩) (k + 1) (one ++ [n])) := by
    refine Lib.hid (slk_ints (base := w.heap.size + 2) (c := cc) ?_ (by rw [List.length_append, List.length_singleton, HK.out]))
    have h := HO3.out
    unfold ints; rw [List.map_append]; exact h
  have hs3 : Hid (w.heap.size + 2 ≤ w3.heap.size) := Lib.hid (by have := HBe3.out.size; have := HZ.out; omega)
  have e0 := HB3.out.c0
  clear HG2 HG3 HBe2 HO2 hs2
  have HNG : Hid ((h.kd == 3) = false ∨ ((h.kd == 3) = true ∧ ¬ (k + 1 < 3))) := by
    have := HONE.out; rw [HK.out] at this
    by_cases e : h.kd = 3
    · exact .inr ⟨by simpa using e, fun h => this ⟨e, h⟩⟩
    · exact .inl (by simpa using e)
  obtain ⟨p, hp⟩ : ∃ p, Pq.Px.packV (one ++ [n]) = p := ⟨_, rfl⟩
  have HP := Lib.hid hp
  have HPK : Hid (∀ W, Pq.Sl W (some ⟨g, 0, none⟩) (k + 1) (one ++ [n]) → Calls Tryz.prog 75 #[.slice (some ⟨g, 0, none⟩) (k + 1) cc] W fun e w' => e = .returned (.tuple #[.int .u64 p.1, .int .i64 p.2]) ∧ W = w') := fun W hs => by
    have h := Pq.refPack_any (some ⟨g, 0, none⟩) (k + 1) cc (one ++ [n]) W (by omega) hs
    rw [hp] at h; exact h
  have HGB : Hid (w.heap.size + 2 ≤ g) := Lib.hid (HO3.out.lt g rfl).1
  clear hp
  go_cut [26] (fun s26 wx => s26 = .bool false ∧ w3 = wx)
  case first =>
    rcases HNG.out with h | ⟨h, h'⟩
    · go_wp2_with fail
      go_meet
      case rel => exact ⟨rfl, rfl⟩
    · have h2 : ¬ (k : Int) + 1 < 3 := by omega
      have h3 : decide ((k : Int) + 1 < 3) = false := decide_eq_false h2
      go_wp2_with fail
      go_meet
      case rel => exact ⟨rfl, rfl⟩
  case rest =>
    obtain ⟨rfl, rfl⟩ := hcut
    have f5 := HB3.out.fr 5
    have e5 := HB3.out.c5
    clear e0
    go_upto_region 8 with fail
    generalize hW : w3.setCell ⟨w.heap.size, 5, none⟩ (.slice none 0 0) = w4
    have HB4 : Hid (RbC w4 w.heap.size h (-1) (.slice none 0 0) (.slice a2 r c2) rows 0 e) := by show RbC _ _ _ _ _ _ _ _ _; rw [← hW]; exact HB3.out.put5 _
    have HZ4 : Hid (RbC w4 (w.heap.size + 1) Hd.none 0 (.slice none 0 0) (.slice none 0 0) 0 0 0) := by show RbC _ _ _ _ _ _ _ _ _; rw [← hW]; exact HZ3.out.other (by simp) _
    have HW4 : Hid (Below w.heap.size w w4) := by show Below _ _ _; rw [← hW]; exact HW3.out.setCell (p := ⟨w.heap.size, 5, none⟩) (Nat.le_refl _) _
    have HS4 : Hid (SlK .i64 w4 (some ⟨g, 0, none⟩) (k + 1) (one ++ [n])) := by show SlK _ _ _ _ _; rw [← hW]; exact slk_kept (b := w.heap.size) HS3.out (fun y hy => by cases hy; have := HGB.out; show g ≠ _; omega) (grown_set _ _ _ _)
    have hs4 : Hid (w.heap.size + 2 ≤ w4.heap.size) := by show _ ≤ _; rw [← hW]; have := hs3.out; simpa [World.setCell] using this
    clear hW f5 e5 HB3 HZ3 HW3 HS3
    go_upto_region 10 with (go_at_call 75; refine (HPK.out _ (slk_sl HS4.out)).mono ?_; rintro e w9 ⟨rfl, rfl⟩)
    have e6 := HB4.out.c6
    go_upto_region 11 with (at_builtin; refine wpList_app rfl _ _ 30 rfl (w.heap.size + 2) 55 p0 .u64 8 Tryz.underlying30 pi pz0 pz1 pz2 (.slice none 0 0) 0 [] rfl (World.ownsRow_nil _ _ _ _) a2 r c2 row rfl (H2.out.below HW4.out) (by unfold maxLen; omega) (by omega) hs4.out ?_; intro v5 w5 hown hgrow hat; rw [Nat.zero_add, List.nil_append] at hown; have HO5 := Lib.hid hown; have HG5 := Lib.hid hgrow; clear hown hgrow hat)
    have HBe5 : Hid (Below (w.heap.size + 2) w4 w5) := Lib.hid ((Below.refl _ w4).grown HG5.out hs4.out (fun j ej => by cases ej))
    have hs5 : Hid (w.heap.size + 2 ≤ w5.heap.size) := Lib.hid (by have := HBe5.out.size; have := hs4.out; omega)
    clear e6
    go_upto_region 12 with (at_builtin; refine wpList_app rfl _ _ 30 rfl (w.heap.size + 2) 55 p0 .u64 8 Tryz.underlying30 pi pz0 pz1 pz2 v5 r (pixs row) rfl (HO5.out.alloc _) (some ⟨w5.heap.size, 0, none⟩) 1 1 [p.1] rfl (slk_one _ _ _ _) (by unfold maxLen; omega) (by omega) (by have := hs5.out; simp; omega) ?_; intro v6 w6 hown hgrow hat; obtain ⟨g6, c6, rfl, _, _⟩ := hown.form (by omega); have HO6 := Lib.hid hown; have HG6 := Lib.hid hgrow; clear hown hgrow hat)
    have HBe6 : Hid (Below (w.heap.size + 2) w4 w6) := Lib.hid (((HBe5.out.alloc hs5.out _)).grown HG6.out (by have := hs5.out; simp; omega) (fun j ej => (HO5.out.lt j ej).1))
    have HB6 : Hid (RbC w6 w.heap.size h (-1) (.slice none 0 0) (.slice a2 r c2) rows 0 e) := by show RbC _ _ _ _ _ _ _ _ _; exact (HBe6.out.block _ (by omega)).trans HB4.out
    have HZ6 : Hid (RbC w6 (w.heap.size + 1) Hd.none 0 (.slice none 0 0) (.slice none 0 0) 0 0 0) := by show RbC _ _ _ _ _ _ _ _ _; exact (HBe6.out.block _ (by omega)).trans HZ4.out
    have HW6 : Hid (Below w.heap.size w w6) := Lib.hid (HW4.out.trans (HBe6.out.mono (by omega)))
    have HS6 : Hid (SlK .u64 w6 (some ⟨g6, 0, none⟩) (r + 1) (row ++ [p.1])) := by
      refine Lib.hid (slk_of_row (base := w.heap.size + 2) (c := c6) ?_ (by rw [List.length_append, List.length_singleton, HR.out]))
      have h := HO6.out
      unfold pixs; rw [List.map_append]; exact h
    have HGC : Hid (w.heap.size + 2 ≤ g6) := Lib.hid (HO6.out.lt g6 rfl).1
    have e1 := HB6.out.c1
    have e6 := HB6.out.c6
    have f6 := HB6.out.fr 6
    clear HG5 HG6 HBe5 HO5 hs5 HO6 HBe6
    have hrp : ¬ (r : Int) + 1 < h.w := by have := HRW.out; rw [HR.out] at this; omega
    have hrd : decide ((r : Int) + 1 < h.w) = false := decide_eq_false hrp
    have e7 := HB6.out.c7
    have f7 := HB6.out.fr 7
    have g1 : wrap64 (rows + 1) = rows + 1 := by rw [IntWalk.wrap64_in] <;> omega
    go_upto_region 17 with fail
    generalize hW : (w6.setCell ⟨w.heap.size, 6, none⟩ (.slice none 0 0)).setCell ⟨w.heap.size, 7, none⟩ (.int .i64 (rows + 1)) = w7
    have HB7 : Hid (RbC w7 w.heap.size h (-1) (.slice none 0 0) (.slice none 0 0) (rows + 1) 0 e) := by show RbC _ _ _ _ _ _ _ _ _; rw [← hW]; exact (HB6.out.put6 _).put7 _
    have HZ7 : Hid (RbC w7 (w.heap.size + 1) Hd.none 0 (.slice none 0 0) (.slice none 0 0) 0 0 0) := by show RbC _ _ _ _ _ _ _ _ _; rw [← hW]; exact (HZ6.out.other (by simp) _).other (by simp) _
    have HW7 : Hid (Below w.heap.size w w7) := by show Below _ _ _; rw [← hW]; exact (HW6.out.setCell (p := ⟨w.heap.size, 6, none⟩) (Nat.le_refl _) _).setCell (p := ⟨w.heap.size, 7, none⟩) (Nat.le_refl _) _
    have HS7 : Hid (SlK .u64 w7 (some ⟨g6, 0, none⟩) (r + 1) (row ++ [p.1])) := by show SlK _ _ _ _ _; rw [← hW]; exact slk_kept (b := w.heap.size) HS6.out (fun y hy => by cases hy; have := HGC.out; show g6 ≠ _; omega) ((grown_set _ _ _ _).trans (grown_set _ _ _ _))
    have e2 := HB7.out.c2
    have e7 := HB7.out.c7
    clear hW e1 e6 f6 f7 hrp hrd HB6 HZ6 HW6 HS6
    have hq : (rows + 1 == h.h) = true := by have := HRS.out; simpa using this
    have e8 := HB7.out.c8
    have f8 := HB7.out.fr 8
    go_upto_region 19 with fail
    generalize hW : w7.setCell ⟨w.heap.size, 8, none⟩ (.int .i64 1) = w8
    have HB8 : Hid (RbC w8 w.heap.size h (-1) (.slice none 0 0) (.slice none 0 0) (rows + 1) 1 e) := by show RbC _ _ _ _ _ _ _ _ _; rw [← hW]; exact HB7.out.put8 _
    have HZ8 : Hid (RbC w8 (w.heap.size + 1) Hd.none 0 (.slice none 0 0) (.slice none 0 0) 0 0 0) := by show RbC _ _ _ _ _ _ _ _ _; rw [← hW]; exact HZ7.out.other (by simp) _
    have HW8 : Hid (Below w.heap.size w w8) := by show Below _ _ _; rw [← hW]; exact HW7.out.setCell (p := ⟨w.heap.size, 8, none⟩) (Nat.le_refl _) _
    have HS8 : Hid (SlK .u64 w8 (some ⟨g6, 0, none⟩) (r + 1) (row ++ [p.1])) := by show SlK _ _ _ _ _; rw [← hW]; exact slk_kept (b := w.heap.size) HS7.out (fun y hy => by cases hy; have := HGC.out; show g6 ≠ _; omega) (grown_set _ _ _ _)
    clear hW e2 e7 e8 f8 hq HB7 HZ7 HW7 HS7
    obtain ⟨b0, b1, b2, b3, b4, b5, b6, b7, b8, b9⟩ := HB8.out.cells
    obtain ⟨z0, z1, z2, z3, z4, z5, z6, z7, z8, z9⟩ := HZ8.out.cells
    obtain ⟨y0, y1, y2, y3, y4, y5, y6, y7, y8, y9⟩ := HZ8.out.frs
    have HPA := Lib.hid (HZ8.out.putAll h (-1) (.slice none 0 0) (.slice none 0 0) (rows + 1) 1 e)
    go_wp2
    have GP := Lib.hid (RbC.grownAll w8 (w.heap.size + 1) h (-1) (.slice none 0 0) (.slice none 0 0) (rows + 1) 1 e)
    have BP := Lib.hid ((Below.refl (w.heap.size + 1) w8).grown GP.out (by have := HZ8.out.lt; omega) (fun j ej => by cases ej; exact Nat.le_refl _))
    refine bodyPost_ret (ret_cell_tmp Tryz.results140 _ _ _ _ rfl (load_rR HPA.out)) rfl ?_
    refine ⟨none, 0, none, 0, some ⟨g6, 0, none⟩, c6, ?_, ⟨rfl, .inl rfl⟩, ⟨rfl, .inl rfl⟩, ?_, ?_, nw_none _, .inr (nw_none _), nw_some HGC.out⟩
    · rw [HP.out, List.length_append, List.length_singleton, HR.out]; rfl
    · rw [HP.out, List.length_append, List.length_singleton, HR.out]; exact slk_kept (b := w.heap.size + 1) HS8.out (fun y hy => by cases hy; have := HGC.out; show g6 ≠ _; omega) GP.out
    · exact HW8.out.trans (BP.out.mono (Nat.le_succ _))
end Go.Proofs.YtkjkepnailamnaaGreat

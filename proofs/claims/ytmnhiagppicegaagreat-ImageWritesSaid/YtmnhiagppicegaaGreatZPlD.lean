/- A reader of digits takes a sample, over any memory. Condition: its head may be, its numbers are samples. -/
import Derived.Test.YtmnhiagppicegaaGreatZgAD
import Derived.Test.YtmnhiagppicegaaGreatZgAC
import Derived.Test.YtmnhiagppicegaaGreatZQPixA
namespace Go.Proofs.YtmnhiagppicegaaGreat
open Go.RowKit
set_option linter.unusedVariables false

theorem Tryz.info_in8 : (Tryz.prog.info? 3).map (fun i => (i.zero, i.size, i.bytes)) = some (some (.int .i64 0), 1, 8) := by kernel_rfl
theorem Tryz.info_px8 : (Tryz.prog.info? 26).map (fun i => (i.zero, i.size, i.bytes)) = some (some (.int .u64 0), 1, 8) := by kernel_rfl
theorem one_new (w : World) (v : Value) (t : TypeId) : ∀ j u, ([v] : List Value)[j]? = some u → (w.alloc (.cells #[v] t)).cell? ((⟨w.heap.size, 0, none⟩ : Addr).add j) = some u := by
  intro j u hu
  cases j with
  | zero => simp at hu; subst hu; show (w.alloc _).cell? ⟨w.heap.size, 0, none⟩ = _; rw [World.cell?_alloc_at _ _ _ _ rfl]; rfl
  | succ j => simp at hu
theorem box1' (w : World) (o : Obj) : Below w.heap.size w (w.alloc o) := (Below.refl w.heap.size w).alloc (Nat.le_refl _) o
/-- what take hands back, and what its blocks hold then -/
def TakeR (W : World) (b : Nat) (h : Hd.H) (sv0 rv0 : Value) (x : Value) (one row : List Int) (rows t : Int) (out : List Int) (e : Ending) (w' : World) : Prop :=
  ∃ a c sv rv, e = .returned (.slice a out.length c) ∧ PlT W b h sv0 rv0 0 sv rv one row rows t x w' ∧ SlK .u64 w' a out.length out ∧ ∀ y, a = some y → y.block ≠ b
theorem sl_of_row {w : World} {base k : Nat} {v : Value} {l : List Int} {z : Int} (hz : l ++ [z] = l ++ [z]) (hr : w.ownsRow base 3 1 v k (ints l)) (hk : l.length = k) :
    ∃ a c, v = .slice a k c ∧ Pq.Sl w a k l := by
  rcases hr.2 with ⟨rfl, rfl⟩ | ⟨g, cap, cur, rfl, hb, hg, hle, hm, hs, ht⟩
  · exact ⟨none, 0, rfl, hk, .inl rfl⟩
  · refine ⟨_, cap, rfl, hk, .inr ⟨g, 0, rfl, fun i hi => ?_⟩⟩
    have hc := hr.cells (g := g) rfl i (.int .i64 (l.getD i 0)) (by simp [ints, List.getD_eq_getElem?_getD, List.getElem?_eq_getElem (show i < l.length by omega)])
    simpa [addrK_add] using hc
theorem slk_of_row {w : World} {base k : Nat} {a : Option Addr} {c : Nat} {l : List Int} (hr : w.ownsRow base 26 1 (.slice a k c) k (pixs l)) (hk : l.length = k) : SlK .u64 w a k l := by
  rcases hr.2 with ⟨hv, rfl⟩ | ⟨g, cap, cur, hv, hb, hg, hle, hm, hs, ht⟩
  · exact ⟨hk, .inl rfl⟩
  · cases hv
    refine ⟨hk, .inr ⟨g, 0, rfl, fun i hi => ?_⟩⟩
    have hc := hr.cells (g := g) rfl i (.int .u64 (l.getD i 0)) (by simp [pixs, List.getD_eq_getElem?_getD, List.getElem?_eq_getElem (show i < l.length by omega)])
    simpa [addrK_add] using hc

set_option maxRecDepth 100000 in
set_option maxHeartbeats 2000000 in
theorem take_more {b : Nat} {h : Hd.H} (hm : Pl.May h) {sv rv : Value} {n : Int} {one row : List Int} {rows : Int} {x : Value} {w : World} (T : PlT w b h sv rv n sv rv one row rows 0 x w) (ho4 : one.length ≤ 3) (hr4 : row.length ≤ 4096) (rows0 : 0 ≤ rows) (rows1 : rows < h.h) (hone : (one.length : Int) + 1 < Hj.chan h) :
    Calls Tryz.prog 164 #[.pointer (some ⟨b, 0, none⟩)] w (TakeR w b h sv rv x (one ++ [n]) row rows 0 []) := by
  have hmm := hm.m
  have hF := hformat_any h hm.1
  unfold Hj.fm agH at hF
  obtain ⟨C, hC⟩ : ∃ C, Hj.chan h = C := ⟨_, rfl⟩
  rw [hC] at hF hone
  have HF := Lib.hid hF
  have hfd := field0_run C h.m
  obtain ⟨i0, hi, hz0, hz1, hz2⟩ : ∃ i, Tryz.prog.info? 3 = some i ∧ i.zero = some (.int .i64 0) ∧ i.size = 1 ∧ i.bytes = 8 := (by have h := Tryz.info_in8; cases hh : Tryz.prog.info? 3 with | none => rw [hh] at h; cases h | some i => rw [hh] at h; simp at h; exact ⟨i, rfl, h.1, h.2.1, h.2.2⟩)
  obtain ⟨p0, pi, pz0, pz1, pz2⟩ : ∃ i, Tryz.prog.info? 26 = some i ∧ i.zero = some (.int .u64 0) ∧ i.size = 1 ∧ i.bytes = 8 := (by have h := Tryz.info_px8; cases hh : Tryz.prog.info? 26 with | none => rw [hh] at h; cases h | some i => rw [hh] at h; simp at h; exact ⟨i, rfl, h.1, h.2.1, h.2.2⟩)
  have hte : 3 ≠ 26 := by decide
  have HT := Lib.hid T
  have hc5 := T.c.c5
  have hc4 := T.c.c4
  obtain ⟨k, hk⟩ : ∃ k, one.length = k := ⟨_, rfl⟩
  have HK := Lib.hid hk
  have HS : Hid (w.ownsRow (b + 1) 3 1 sv k (ints one)) := by show w.ownsRow _ _ _ _ _ _; have := T.s; rw [hk] at this; exact this
  have hbw : b + 1 ≤ w.heap.size := T.c.lt
  have hk3 : k ≤ 3 := by omega
  have hblt : b < w.heap.size := hbw
  have hbne : ¬ b = w.heap.size := Nat.ne_of_lt hblt
  have m5 := cell_later (box1' w (.cells #[.int .i64 n] 3)) hc5
  have HONE := Lib.hid hone
  have HC := Lib.hid hC
  have HM := Lib.hid hm
  clear hF hone hC hk T hmm ho4 hm
  go_enter Tryz.func164, Tryz.ntmps164
  go_wp2_with fail
  go_cut [] from 7 to 19 (fun wx => ∃ g cc, PlT w b h sv rv n (.slice (some ⟨g, 0, none⟩) (k + 1) cc) rv (one ++ [n]) row rows 0 x wx)
  case first =>
    go_region_law (refine step_append_lies _ rfl _ _ 22 rfl (b + 1) 3 i0 (.int .i64 0) 1 8 Tryz.underlying22 hi hz0 hz1 hz2 rfl (by decide) sv k _ rfl (HS.out.alloc _) ⟨w.heap.size, 0, none⟩ 1 1 [.int .i64 n] rfl rfl (one_new _ _ _) (by simp [Value.oneCell']) (by omega) (by unfold maxLen; omega) (by omega) (by simp; omega) _ rfl ?_; intro gg cc w5 hown' hgrow' hat _; obtain ⟨q1, q2⟩ := HT.out.drew.pushS hte _ n (by have h := hown'; rw [HK.out]; exact h) hgrow' hat; have hd5 := q1.c5; have hf5 := q1.fr 5)
    all_goals
      have Q2 : Hid (PlT w b h sv rv n (.slice (some ⟨gg, 0, none⟩) (k + 1) cc) rv (one ++ [n]) row rows 0 x (w5.setCell ⟨b, 5, none⟩ (.slice (some ⟨gg, 0, none⟩) (k + 1) cc))) := by have h := q2; rw [HK.out] at h; exact h
      clear q1 q2 hown' hgrow' hat
      go_wp2_with fail
      go_meet
      case rel => exact ⟨gg, cc, Q2.out⟩
  case rest =>
    obtain ⟨g, cc, T1⟩ := hcut
    have HT1 := Lib.hid T1
    have hd4 := T1.c.c4
    have hd5 := T1.c.c5
    have hf4 := T1.c.fr 4
    clear hc5 hc4 m5 HS HT T1
    go_upto_region 3 with fail
    generalize hW : wc.setCell ⟨b, 4, none⟩ (.int .i64 0) = w2
    have HT2 : Hid (PlT w b h sv rv 0 (.slice (some ⟨g, 0, none⟩) (k + 1) cc) rv (one ++ [n]) row rows 0 x w2) := by show PlT _ _ _ _ _ _ _ _ _ _ _ _ _ _; rw [← hW]; exact HT1.out.set4 0
    clear HT1 hd4 hd5 hf4 hW
    have T2 := HT2.out
    have e0 := T2.c.c0
    have e1 := T2.c.c1
    have e2 := T2.c.c2
    have e3 := T2.c.c3
    have e5 := T2.c.c5
    clear T2
    have hBr : Below w2.heap.size w2 w2 := .refl _ _
    go_cut [34] from 23 to 34 (fun s34 wx => s34 = .bool (decide ((k : Int) + 1 < C)) ∧ Below w2.heap.size w2 wx)
    case first =>
      go_region_held3 (fun w' => w'.cell? ⟨b, 0, none⟩ = some (.int .i64 h.kd) ∧ w'.cell? ⟨b, 1, none⟩ = some (.int .i64 h.w) ∧ w'.cell? ⟨b, 2, none⟩ = some (.int .i64 h.h) ∧ w'.cell? ⟨b, 3, none⟩ = some (.int .i64 h.m) ∧ w'.cell? ⟨b, 5, none⟩ = some (.slice (some ⟨g, 0, none⟩) (k + 1) cc))
        (first | exact ⟨e0, e1, e2, e3, e5⟩ | exact ⟨cell_later hBr e0, cell_later hBr e1, cell_later hBr e2, cell_later hBr e3, cell_later hBr e5⟩)
        (first | (go_at_call 59; refine (HF.out _).mono ?_; rintro e w8 ⟨rfl, hb8⟩; replace hBr := bel_step (w := w2) (by first | exact hBr | exact hBr.drew) hb8))
      all_goals
        go_wp2_with fail
        go_meet
        case rel => exact ⟨by rfl, hBr⟩
    case rest =>
      obtain ⟨rfl, hBx⟩ := hcut
      have HT3 := Lib.hid (HT2.out.below hBx)
      have htp : (k : Int) + 1 < C := by have := HONE.out; have := HK.out; omega
      have ht : decide ((k : Int) + 1 < C) = true := decide_eq_true htp
      clear hBr e0 e1 e2 e3 e5 hBx
      go_wp2
      go_ret
      exact ⟨none, 0, _, _, rfl, HT3.out, ⟨rfl, .inl rfl⟩, (fun y hy => by cases hy)⟩
set_option maxRecDepth 100000 in
set_option maxHeartbeats 2000000 in
theorem take_pixel {b : Nat} {h : Hd.H} (hm : Pl.May h) {sv rv : Value} {n : Int} {one row : List Int} {rows : Int} {x : Value} {w : World} (T : PlT w b h sv rv n sv rv one row rows 0 x w) (ho4 : one.length ≤ 3) (hr4 : row.length ≤ 4096) (rows0 : 0 ≤ rows) (rows1 : rows < h.h) (hone : ¬ (one.length : Int) + 1 < Hj.chan h) (ho : (one.length : Int) < Hj.chan h) (hrow : (row.length : Int) + 1 < h.w) :
    Calls Tryz.prog 164 #[.pointer (some ⟨b, 0, none⟩)] w (TakeR w b h sv rv x [] (row ++ [(Pq.Px.packV (one ++ [n])).1]) rows 0 []) := by
  have hmm := hm.m
  have hF := hformat_any h hm.1
  unfold Hj.fm agH at hF
  obtain ⟨C, hC⟩ : ∃ C, Hj.chan h = C := ⟨_, rfl⟩
  rw [hC] at hF hone
  have HF := Lib.hid hF
  have hfd := field0_run C h.m
  obtain ⟨i0, hi, hz0, hz1, hz2⟩ : ∃ i, Tryz.prog.info? 3 = some i ∧ i.zero = some (.int .i64 0) ∧ i.size = 1 ∧ i.bytes = 8 := (by have h := Tryz.info_in8; cases hh : Tryz.prog.info? 3 with | none => rw [hh] at h; cases h | some i => rw [hh] at h; simp at h; exact ⟨i, rfl, h.1, h.2.1, h.2.2⟩)
  obtain ⟨p0, pi, pz0, pz1, pz2⟩ : ∃ i, Tryz.prog.info? 26 = some i ∧ i.zero = some (.int .u64 0) ∧ i.size = 1 ∧ i.bytes = 8 := (by have h := Tryz.info_px8; cases hh : Tryz.prog.info? 26 with | none => rw [hh] at h; cases h | some i => rw [hh] at h; simp at h; exact ⟨i, rfl, h.1, h.2.1, h.2.2⟩)
  have hte : 3 ≠ 26 := by decide
  have HT := Lib.hid T
  have hc5 := T.c.c5
  have hc4 := T.c.c4
  obtain ⟨k, hk⟩ : ∃ k, one.length = k := ⟨_, rfl⟩
  have HK := Lib.hid hk
  have HS : Hid (w.ownsRow (b + 1) 3 1 sv k (ints one)) := by show w.ownsRow _ _ _ _ _ _; have := T.s; rw [hk] at this; exact this
  have hbw : b + 1 ≤ w.heap.size := T.c.lt
  have hk3 : k ≤ 3 := by omega
  have hblt : b < w.heap.size := hbw
  have hbne : ¬ b = w.heap.size := Nat.ne_of_lt hblt
  have m5 := cell_later (box1' w (.cells #[.int .i64 n] 3)) hc5
  have HONE := Lib.hid hone
  have HC := Lib.hid hC
  have HM := Lib.hid hm
  clear hF hone hC hk T hmm ho4 hm
  have HO := Lib.hid ho
  clear ho
  have HRW := Lib.hid hrow
  clear hrow
  go_enter Tryz.func164, Tryz.ntmps164
  go_wp2_with fail
  go_cut [] from 7 to 19 (fun wx => ∃ g cc, PlT w b h sv rv n (.slice (some ⟨g, 0, none⟩) (k + 1) cc) rv (one ++ [n]) row rows 0 x wx)
  case first =>
    go_region_law (refine step_append_lies _ rfl _ _ 22 rfl (b + 1) 3 i0 (.int .i64 0) 1 8 Tryz.underlying22 hi hz0 hz1 hz2 rfl (by decide) sv k _ rfl (HS.out.alloc _) ⟨w.heap.size, 0, none⟩ 1 1 [.int .i64 n] rfl rfl (one_new _ _ _) (by simp [Value.oneCell']) (by omega) (by unfold maxLen; omega) (by omega) (by simp; omega) _ rfl ?_; intro gg cc w5 hown' hgrow' hat _; obtain ⟨q1, q2⟩ := HT.out.drew.pushS hte _ n (by have h := hown'; rw [HK.out]; exact h) hgrow' hat; have hd5 := q1.c5; have hf5 := q1.fr 5)
    all_goals
      have Q2 : Hid (PlT w b h sv rv n (.slice (some ⟨gg, 0, none⟩) (k + 1) cc) rv (one ++ [n]) row rows 0 x (w5.setCell ⟨b, 5, none⟩ (.slice (some ⟨gg, 0, none⟩) (k + 1) cc))) := by have h := q2; rw [HK.out] at h; exact h
      clear q1 q2 hown' hgrow' hat
      go_wp2_with fail
      go_meet
      case rel => exact ⟨gg, cc, Q2.out⟩
  case rest =>
    obtain ⟨g, cc, T1⟩ := hcut
    have HT1 := Lib.hid T1
    have hd4 := T1.c.c4
    have hd5 := T1.c.c5
    have hf4 := T1.c.fr 4
    clear hc5 hc4 m5 HS HT T1
    go_upto_region 3 with fail
    generalize hW : wc.setCell ⟨b, 4, none⟩ (.int .i64 0) = w2
    have HT2 : Hid (PlT w b h sv rv 0 (.slice (some ⟨g, 0, none⟩) (k + 1) cc) rv (one ++ [n]) row rows 0 x w2) := by show PlT _ _ _ _ _ _ _ _ _ _ _ _ _ _; rw [← hW]; exact HT1.out.set4 0
    clear HT1 hd4 hd5 hf4 hW
    have T2 := HT2.out
    have e0 := T2.c.c0
    have e1 := T2.c.c1
    have e2 := T2.c.c2
    have e3 := T2.c.c3
    have e5 := T2.c.c5
    clear T2
    have hBr : Below w2.heap.size w2 w2 := .refl _ _
    go_cut [34] from 23 to 34 (fun s34 wx => s34 = .bool (decide ((k : Int) + 1 < C)) ∧ Below w2.heap.size w2 wx)
    case first =>
      go_region_held3 (fun w' => w'.cell? ⟨b, 0, none⟩ = some (.int .i64 h.kd) ∧ w'.cell? ⟨b, 1, none⟩ = some (.int .i64 h.w) ∧ w'.cell? ⟨b, 2, none⟩ = some (.int .i64 h.h) ∧ w'.cell? ⟨b, 3, none⟩ = some (.int .i64 h.m) ∧ w'.cell? ⟨b, 5, none⟩ = some (.slice (some ⟨g, 0, none⟩) (k + 1) cc))
        (first | exact ⟨e0, e1, e2, e3, e5⟩ | exact ⟨cell_later hBr e0, cell_later hBr e1, cell_later hBr e2, cell_later hBr e3, cell_later hBr e5⟩)
        (first | (go_at_call 59; refine (HF.out _).mono ?_; rintro e w8 ⟨rfl, hb8⟩; replace hBr := bel_step (w := w2) (by first | exact hBr | exact hBr.drew) hb8))
      all_goals
        go_wp2_with fail
        go_meet
        case rel => exact ⟨by rfl, hBr⟩
    case rest =>
      obtain ⟨rfl, hBx⟩ := hcut
      have T3 := HT2.out.below hBx
      have htp : ¬ (k : Int) + 1 < C := by have := HONE.out; have := HK.out; omega
      have ht : decide ((k : Int) + 1 < C) = false := decide_eq_false htp
      obtain ⟨p, hp⟩ : ∃ p, Pq.Px.packV (one ++ [n]) = p := ⟨_, rfl⟩
      have HP := Lib.hid hp
      have HSL : Hid (Pq.Sl wc (some ⟨g, 0, none⟩) (k + 1) (one ++ [n])) := by
        have hk := HK.out
        have hs := T3.s
        rw [List.length_append, List.length_singleton, hk] at hs
        obtain ⟨a', c', hv, hs'⟩ := sl_of_row (z := 0) rfl hs (by rw [List.length_append, List.length_singleton, hk])
        cases hv; exact hs'
      have HPK : Hid (∀ W, Pq.Sl W (some ⟨g, 0, none⟩) (k + 1) (one ++ [n]) → Calls Tryz.prog 185 #[.slice (some ⟨g, 0, none⟩) (k + 1) cc] W fun e w' => e = .returned (.tuple #[.int .u64 p.1, .int .i64 p.2]) ∧ W = w') := fun W hs => by
        have h := Pq.pack_any (some ⟨g, 0, none⟩) (k + 1) cc (one ++ [n]) W (by omega) hs
        rw [hp] at h; exact h
      have HT3 := Lib.hid T3
      have e5 := T3.c.c5
      have f5 := T3.c.fr 5
      clear hBr hBx hp T3
      go_wp2_with fail
      refine (HPK.out _ HSL.out).mono ?_
      rintro e w9 ⟨rfl, rfl⟩
      go_upto_region 7 with fail
      generalize hW : wc.setCell ⟨b, 5, none⟩ (.slice (some ⟨g, 0, none⟩) 0 cc) = w4
      have HT4 : Hid (PlT w b h sv rv 0 (.slice (some ⟨g, 0, none⟩) 0 cc) rv [] row rows 0 x w4) := by show PlT _ _ _ _ _ _ _ _ _ _ _ _ _ _; rw [← hW]; exact HT3.out.clear (by rw [List.length_append, List.length_singleton, HK.out])
      clear HT3 e5 f5 hW HSL HPK
      have T4 := HT4.out
      have hbw4 : b + 1 ≤ w4.heap.size := T4.c.lt
      obtain ⟨r, hr⟩ : ∃ r, row.length = r := ⟨_, rfl⟩
      have HRL := Lib.hid hr
      have HR4 : Hid (w4.ownsRow (b + 1) 26 1 rv r (pixs row)) := by show World.ownsRow _ _ _ _ _ _ _; have h := T4.r; rw [hr] at h; exact h
      have hr4' : r ≤ 4096 := by omega
      have e6 := T4.c.c6
      have m6 := cell_later (box1' w4 (.cells #[.int .u64 p.1] 26)) e6
      have hb4 : b < w4.heap.size := hbw4
      have hbn4 : ¬ b = w4.heap.size := Nat.ne_of_lt hb4
      clear T4 hr hr4
      go_cut [] from 51 to 60 (fun wx => ∃ g6 c6, PlT w b h sv rv 0 (.slice (some ⟨g, 0, none⟩) 0 cc) (.slice (some ⟨g6, 0, none⟩) (r + 1) c6) [] (row ++ [p.1]) rows 0 x wx)
      case first =>
        go_wp2_with (at_builtin; refine wpList_append_lies _ rfl _ _ 29 rfl (b + 1) 26 p0 (.int .u64 0) 1 8 Tryz.underlying29 pi pz0 pz1 pz2 rfl (by decide) rv r _ rfl (HR4.out.alloc _) ⟨w4.heap.size, 0, none⟩ 1 1 [.int .u64 p.1] rfl rfl (one_new _ _ _) (by simp [Value.oneCell']) (by omega) (by unfold maxLen; omega) (by omega) (by simp; omega) _ rfl ?_; intro gg c6 w5 hown' hgrow' hat _; obtain ⟨q1, q2⟩ := HT4.out.pushR hte _ p.1 (by have h := hown'; rw [HRL.out]; exact h) hgrow' hat; have hd6 := q1.c6; have hf6 := q1.fr 6; have Q2 : Hid (PlT w b h sv rv 0 (.slice (some ⟨g, 0, none⟩) 0 cc) (.slice (some ⟨gg, 0, none⟩) (r + 1) c6) [] (row ++ [p.1]) rows 0 x (w5.setCell ⟨b, 6, none⟩ (.slice (some ⟨gg, 0, none⟩) (r + 1) c6))) := (by have h := q2; rw [HRL.out] at h; exact h); clear q1 q2 hown' hgrow' hat)
        go_meet
        case rel => exact ⟨gg, c6, Q2.out⟩
      case rest =>
        obtain ⟨g6, c6, T5⟩ := hcut
        clear m6 e6
        have HT5 := Lib.hid T5
        have e1 := T5.c.c1
        have e6 := T5.c.c6
        have hrw : ((r + 1 : Nat) : Int) < h.w := by have := HRW.out; have := HRL.out; omega
        have hrd : decide (((r + 1 : Nat) : Int) < h.w) = true := decide_eq_true hrw
        have hrd' : decide ((r : Int) + 1 < h.w) = true := decide_eq_true (by omega)
        have HRE : Hid (TakeR w b h sv rv x [] (row ++ [(Pq.Px.packV (one ++ [n])).1]) rows 0 [] (.returned (.slice none 0 0)) wc) := by rw [HP.out]; exact ⟨none, 0, _, _, rfl, HT5.out, ⟨rfl, .inl rfl⟩, (fun y hy => by cases hy)⟩
        clear T5 HT4 HR4 hrw
        go_wp2
        go_ret
        exact HRE.out
set_option maxRecDepth 100000 in
set_option maxHeartbeats 2000000 in
theorem take_row {b : Nat} {h : Hd.H} (hm : Pl.May h) {sv rv : Value} {n : Int} {one row : List Int} {rows : Int} {x : Value} {w : World} (T : PlT w b h sv rv n sv rv one row rows 0 x w) (ho4 : one.length ≤ 3) (hr4 : row.length ≤ 4096) (rows0 : 0 ≤ rows) (rows1 : rows < h.h) (hone : ¬ (one.length : Int) + 1 < Hj.chan h) (ho : (one.length : Int) < Hj.chan h) (hrow : ¬ (row.length : Int) + 1 < h.w) (hr : (row.length : Int) < h.w) (hrows : ¬ rows + 1 = h.h) :
    Calls Tryz.prog 164 #[.pointer (some ⟨b, 0, none⟩)] w (TakeR w b h sv rv x [] [] (rows + 1) 0 (row ++ [(Pq.Px.packV (one ++ [n])).1])) := by
  have hmm := hm.m
  have hF := hformat_any h hm.1
  unfold Hj.fm agH at hF
  obtain ⟨C, hC⟩ : ∃ C, Hj.chan h = C := ⟨_, rfl⟩
  rw [hC] at hF hone
  have HF := Lib.hid hF
  have hfd := field0_run C h.m
  obtain ⟨i0, hi, hz0, hz1, hz2⟩ : ∃ i, Tryz.prog.info? 3 = some i ∧ i.zero = some (.int .i64 0) ∧ i.size = 1 ∧ i.bytes = 8 := (by have h := Tryz.info_in8; cases hh : Tryz.prog.info? 3 with | none => rw [hh] at h; cases h | some i => rw [hh] at h; simp at h; exact ⟨i, rfl, h.1, h.2.1, h.2.2⟩)
  obtain ⟨p0, pi, pz0, pz1, pz2⟩ : ∃ i, Tryz.prog.info? 26 = some i ∧ i.zero = some (.int .u64 0) ∧ i.size = 1 ∧ i.bytes = 8 := (by have h := Tryz.info_px8; cases hh : Tryz.prog.info? 26 with | none => rw [hh] at h; cases h | some i => rw [hh] at h; simp at h; exact ⟨i, rfl, h.1, h.2.1, h.2.2⟩)
  have hte : 3 ≠ 26 := by decide
  have HT := Lib.hid T
  have hc5 := T.c.c5
  have hc4 := T.c.c4
  obtain ⟨k, hk⟩ : ∃ k, one.length = k := ⟨_, rfl⟩
  have HK := Lib.hid hk
  have HS : Hid (w.ownsRow (b + 1) 3 1 sv k (ints one)) := by show w.ownsRow _ _ _ _ _ _; have := T.s; rw [hk] at this; exact this
  have hbw : b + 1 ≤ w.heap.size := T.c.lt
  have hk3 : k ≤ 3 := by omega
  have hblt : b < w.heap.size := hbw
  have hbne : ¬ b = w.heap.size := Nat.ne_of_lt hblt
  have m5 := cell_later (box1' w (.cells #[.int .i64 n] 3)) hc5
  have HONE := Lib.hid hone
  have HC := Lib.hid hC
  have HM := Lib.hid hm
  clear hF hone hC hk T hmm ho4 hm
  have HO := Lib.hid ho
  clear ho
  have HR := Lib.hid hr
  have HRS := Lib.hid hrows
  clear hr hrows
  have HRW := Lib.hid hrow
  clear hrow
  go_enter Tryz.func164, Tryz.ntmps164
  go_wp2_with fail
  go_cut [] from 7 to 19 (fun wx => ∃ g cc, PlT w b h sv rv n (.slice (some ⟨g, 0, none⟩) (k + 1) cc) rv (one ++ [n]) row rows 0 x wx)
  case first =>
    go_region_law (refine step_append_lies _ rfl _ _ 22 rfl (b + 1) 3 i0 (.int .i64 0) 1 8 Tryz.underlying22 hi hz0 hz1 hz2 rfl (by decide) sv k _ rfl (HS.out.alloc _) ⟨w.heap.size, 0, none⟩ 1 1 [.int .i64 n] rfl rfl (one_new _ _ _) (by simp [Value.oneCell']) (by omega) (by unfold maxLen; omega) (by omega) (by simp; omega) _ rfl ?_; intro gg cc w5 hown' hgrow' hat _; obtain ⟨q1, q2⟩ := HT.out.drew.pushS hte _ n (by have h := hown'; rw [HK.out]; exact h) hgrow' hat; have hd5 := q1.c5; have hf5 := q1.fr 5)
    all_goals
      have Q2 : Hid (PlT w b h sv rv n (.slice (some ⟨gg, 0, none⟩) (k + 1) cc) rv (one ++ [n]) row rows 0 x (w5.setCell ⟨b, 5, none⟩ (.slice (some ⟨gg, 0, none⟩) (k + 1) cc))) := by have h := q2; rw [HK.out] at h; exact h
      clear q1 q2 hown' hgrow' hat
      go_wp2_with fail
      go_meet
      case rel => exact ⟨gg, cc, Q2.out⟩
  case rest =>
    obtain ⟨g, cc, T1⟩ := hcut
    have HT1 := Lib.hid T1
    have hd4 := T1.c.c4
    have hd5 := T1.c.c5
    have hf4 := T1.c.fr 4
    clear hc5 hc4 m5 HS HT T1
    go_upto_region 3 with fail
    generalize hW : wc.setCell ⟨b, 4, none⟩ (.int .i64 0) = w2
    have HT2 : Hid (PlT w b h sv rv 0 (.slice (some ⟨g, 0, none⟩) (k + 1) cc) rv (one ++ [n]) row rows 0 x w2) := by show PlT _ _ _ _ _ _ _ _ _ _ _ _ _ _; rw [← hW]; exact HT1.out.set4 0
    clear HT1 hd4 hd5 hf4 hW
    have T2 := HT2.out
    have e0 := T2.c.c0
    have e1 := T2.c.c1
    have e2 := T2.c.c2
    have e3 := T2.c.c3
    have e5 := T2.c.c5
    clear T2
    have hBr : Below w2.heap.size w2 w2 := .refl _ _
    go_cut [34] from 23 to 34 (fun s34 wx => s34 = .bool (decide ((k : Int) + 1 < C)) ∧ Below w2.heap.size w2 wx)
    case first =>
      go_region_held3 (fun w' => w'.cell? ⟨b, 0, none⟩ = some (.int .i64 h.kd) ∧ w'.cell? ⟨b, 1, none⟩ = some (.int .i64 h.w) ∧ w'.cell? ⟨b, 2, none⟩ = some (.int .i64 h.h) ∧ w'.cell? ⟨b, 3, none⟩ = some (.int .i64 h.m) ∧ w'.cell? ⟨b, 5, none⟩ = some (.slice (some ⟨g, 0, none⟩) (k + 1) cc))
        (first | exact ⟨e0, e1, e2, e3, e5⟩ | exact ⟨cell_later hBr e0, cell_later hBr e1, cell_later hBr e2, cell_later hBr e3, cell_later hBr e5⟩)
        (first | (go_at_call 59; refine (HF.out _).mono ?_; rintro e w8 ⟨rfl, hb8⟩; replace hBr := bel_step (w := w2) (by first | exact hBr | exact hBr.drew) hb8))
      all_goals
        go_wp2_with fail
        go_meet
        case rel => exact ⟨by rfl, hBr⟩
    case rest =>
      obtain ⟨rfl, hBx⟩ := hcut
      have T3 := HT2.out.below hBx
      have htp : ¬ (k : Int) + 1 < C := by have := HONE.out; have := HK.out; omega
      have ht : decide ((k : Int) + 1 < C) = false := decide_eq_false htp
      obtain ⟨p, hp⟩ : ∃ p, Pq.Px.packV (one ++ [n]) = p := ⟨_, rfl⟩
      have HP := Lib.hid hp
      have HSL : Hid (Pq.Sl wc (some ⟨g, 0, none⟩) (k + 1) (one ++ [n])) := by
        have hk := HK.out
        have hs := T3.s
        rw [List.length_append, List.length_singleton, hk] at hs
        obtain ⟨a', c', hv, hs'⟩ := sl_of_row (z := 0) rfl hs (by rw [List.length_append, List.length_singleton, hk])
        cases hv; exact hs'
      have HPK : Hid (∀ W, Pq.Sl W (some ⟨g, 0, none⟩) (k + 1) (one ++ [n]) → Calls Tryz.prog 185 #[.slice (some ⟨g, 0, none⟩) (k + 1) cc] W fun e w' => e = .returned (.tuple #[.int .u64 p.1, .int .i64 p.2]) ∧ W = w') := fun W hs => by
        have h := Pq.pack_any (some ⟨g, 0, none⟩) (k + 1) cc (one ++ [n]) W (by omega) hs
        rw [hp] at h; exact h
      have HT3 := Lib.hid T3
      have e5 := T3.c.c5
      have f5 := T3.c.fr 5
      clear hBr hBx hp T3
      go_wp2_with fail
      refine (HPK.out _ HSL.out).mono ?_
      rintro e w9 ⟨rfl, rfl⟩
      go_upto_region 7 with fail
      generalize hW : wc.setCell ⟨b, 5, none⟩ (.slice (some ⟨g, 0, none⟩) 0 cc) = w4
      have HT4 : Hid (PlT w b h sv rv 0 (.slice (some ⟨g, 0, none⟩) 0 cc) rv [] row rows 0 x w4) := by show PlT _ _ _ _ _ _ _ _ _ _ _ _ _ _; rw [← hW]; exact HT3.out.clear (by rw [List.length_append, List.length_singleton, HK.out])
      clear HT3 e5 f5 hW HSL HPK
      have T4 := HT4.out
      have hbw4 : b + 1 ≤ w4.heap.size := T4.c.lt
      obtain ⟨r, hr⟩ : ∃ r, row.length = r := ⟨_, rfl⟩
      have HRL := Lib.hid hr
      have HR4 : Hid (w4.ownsRow (b + 1) 26 1 rv r (pixs row)) := by show World.ownsRow _ _ _ _ _ _ _; have h := T4.r; rw [hr] at h; exact h
      have hr4' : r ≤ 4096 := by omega
      have e6 := T4.c.c6
      have m6 := cell_later (box1' w4 (.cells #[.int .u64 p.1] 26)) e6
      have hb4 : b < w4.heap.size := hbw4
      have hbn4 : ¬ b = w4.heap.size := Nat.ne_of_lt hb4
      clear T4 hr hr4
      go_cut [] from 51 to 60 (fun wx => ∃ g6 c6, PlT w b h sv rv 0 (.slice (some ⟨g, 0, none⟩) 0 cc) (.slice (some ⟨g6, 0, none⟩) (r + 1) c6) [] (row ++ [p.1]) rows 0 x wx)
      case first =>
        go_wp2_with (at_builtin; refine wpList_append_lies _ rfl _ _ 29 rfl (b + 1) 26 p0 (.int .u64 0) 1 8 Tryz.underlying29 pi pz0 pz1 pz2 rfl (by decide) rv r _ rfl (HR4.out.alloc _) ⟨w4.heap.size, 0, none⟩ 1 1 [.int .u64 p.1] rfl rfl (one_new _ _ _) (by simp [Value.oneCell']) (by omega) (by unfold maxLen; omega) (by omega) (by simp; omega) _ rfl ?_; intro gg c6 w5 hown' hgrow' hat _; obtain ⟨q1, q2⟩ := HT4.out.pushR hte _ p.1 (by have h := hown'; rw [HRL.out]; exact h) hgrow' hat; have hd6 := q1.c6; have hf6 := q1.fr 6; have Q2 : Hid (PlT w b h sv rv 0 (.slice (some ⟨g, 0, none⟩) 0 cc) (.slice (some ⟨gg, 0, none⟩) (r + 1) c6) [] (row ++ [p.1]) rows 0 x (w5.setCell ⟨b, 6, none⟩ (.slice (some ⟨gg, 0, none⟩) (r + 1) c6))) := (by have h := q2; rw [HRL.out] at h; exact h); clear q1 q2 hown' hgrow' hat)
        go_meet
        case rel => exact ⟨gg, c6, Q2.out⟩
      case rest =>
        obtain ⟨g6, c6, T5⟩ := hcut
        clear m6 e6
        have HT5 := Lib.hid T5
        have e1 := T5.c.c1
        have e6 := T5.c.c6
        have hrw : ((r + 1 : Nat) : Int) = h.w := by have := HRW.out; have := HR.out; have := HRL.out; omega
        have hm := HM.out.m
        have HRWW := Lib.hid hrw
        have e2 := T5.c.c2
        have e7 := T5.c.c7
        have f6 := T5.c.fr 6
        have f7 := T5.c.fr 7
        have f8 := T5.c.fr 8
        have e8 := T5.c.c8
        have hrc : r + 1 ≤ c6 := by
          have h := T5.r
          rw [List.length_append, List.length_singleton, HRL.out] at h
          exact ownsRow_cap h
        have hcm : c6 ≤ 9223372036854775807 := by
          have h := T5.r
          rw [List.length_append, List.length_singleton, HRL.out] at h
          rcases h.2 with ⟨hv, _⟩ | ⟨_, _, _, hv, _, _, _, hx, _⟩
          · cases hv
          · cases hv; unfold maxLen at hx; exact hx
        obtain ⟨hw, hhw⟩ : ∃ hw, h.w = hw := ⟨_, rfl⟩
        rw [← hrw] at e1
        have hrd : decide (((r + 1 : Nat) : Int) < ((r + 1 : Nat) : Int)) = false := decide_eq_false (by omega)
        have hrd' : decide ((r : Int) + 1 < (r : Int) + 1) = false := decide_eq_false (by omega)
        obtain ⟨hh, hhh⟩ : ∃ hh, h.h = hh := ⟨_, rfl⟩
        rw [hhh] at e2 rows1
        have hh9 : hh ≤ 65536 := by omega
        have g1 : wrap64 (rows + 1) = rows + 1 := by rw [IntWalk.wrap64_in] <;> omega
        have hq : (rows + 1 == hh) = false := by have := HRS.out; simp; omega
        clear hrw hm hhw T5
        go_wp2_with fail
        have HRE : Hid (∀ wf, PlT w b h sv rv 0 (.slice (some ⟨g, 0, none⟩) 0 cc) (.slice none 0 0) [] [] (rows + 1) 0 x wf → SlK .u64 wf (some ⟨g6, 0, none⟩) (r + 1) (row ++ [p.1]) → TakeR w b h sv rv x [] [] (rows + 1) 0 (row ++ [(Pq.Px.packV (one ++ [n])).1]) (.returned (.slice (some ⟨g6, 0, none⟩) (r + 1) (r + 1))) wf) := by
          intro wf hT hS
          have hl : (row ++ [(Pq.Px.packV (one ++ [n])).1]).length = r + 1 := by rw [List.length_append, List.length_singleton, HRL.out]
          have hgb : b + 1 ≤ g6 := (HT5.out.r.lt g6 rfl).1
          refine ⟨some ⟨g6, 0, none⟩, r + 1, _, _, by rw [hl], hT, ?_, fun y hy => by cases hy; show g6 ≠ b; omega⟩
          rw [hl, HP.out]; exact hS
        generalize hW : (wc.setCell ⟨b, 6, none⟩ (.slice none 0 0)).setCell ⟨b, 7, none⟩ (.int .i64 (rows + 1)) = w6
        have T6 : PlT w b h sv rv 0 (.slice (some ⟨g, 0, none⟩) 0 cc) (.slice none 0 0) [] [] (rows + 1) 0 x w6 := by rw [← hW]; exact HT5.out.free.set7 (rows + 1)
        have HSR : Hid (w6.ownsRow (b + 1) 26 1 (.slice (some ⟨g6, 0, none⟩) (r + 1) c6) (r + 1) (pixs (row ++ [p.1]))) := by
          show World.ownsRow _ _ _ _ _ _ _
          have h := HT5.out.r
          rw [List.length_append, List.length_singleton, HRL.out] at h
          rw [← hW]; exact set_ownsRow (set_ownsRow h (Nat.lt_succ_self b) _) (Nat.lt_succ_self b) _
        have HT6 := Lib.hid T6
        have a2 := T6.c.c2
        have a7 := T6.c.c7
        have a8 := T6.c.c8
        have fa := T6.c.fr 8
        rw [hhh] at a2
        clear e1 e2 e6 e7 e8 f6 f7 f8 hW T6 HT5 hhh e0 e3 e5
        go_quiet (fail)
        go_wp2
        go_ret
        exact HRE.out _ ⟨HT6.out.c.drewN _, HT6.out.s, HT6.out.r, HT6.out.f.trans (.drewN _ _ _), HT6.out.ns, HT6.out.nr⟩ (slk_of_row (w := w6) (base := b + 1) (c := c6) HSR.out (by rw [List.length_append, List.length_singleton, HRL.out]))
set_option maxRecDepth 100000 in
set_option maxHeartbeats 2000000 in
theorem take_over {b : Nat} {h : Hd.H} (hm : Pl.May h) {sv rv : Value} {n : Int} {one row : List Int} {rows : Int} {x : Value} {w : World} (T : PlT w b h sv rv n sv rv one row rows 0 x w) (ho4 : one.length ≤ 3) (hr4 : row.length ≤ 4096) (rows0 : 0 ≤ rows) (rows1 : rows < h.h) (hone : ¬ (one.length : Int) + 1 < Hj.chan h) (ho : (one.length : Int) < Hj.chan h) (hrow : ¬ (row.length : Int) + 1 < h.w) (hr : (row.length : Int) < h.w) (hrows : rows + 1 = h.h) :
    Calls Tryz.prog 164 #[.pointer (some ⟨b, 0, none⟩)] w (TakeR w b h sv rv x [] [] (rows + 1) 1 (row ++ [(Pq.Px.packV (one ++ [n])).1])) := by
  have hmm := hm.m
  have hF := hformat_any h hm.1
  unfold Hj.fm agH at hF
  obtain ⟨C, hC⟩ : ∃ C, Hj.chan h = C := ⟨_, rfl⟩
  rw [hC] at hF hone
  have HF := Lib.hid hF
  have hfd := field0_run C h.m
  obtain ⟨i0, hi, hz0, hz1, hz2⟩ : ∃ i, Tryz.prog.info? 3 = some i ∧ i.zero = some (.int .i64 0) ∧ i.size = 1 ∧ i.bytes = 8 := (by have h := Tryz.info_in8; cases hh : Tryz.prog.info? 3 with | none => rw [hh] at h; cases h | some i => rw [hh] at h; simp at h; exact ⟨i, rfl, h.1, h.2.1, h.2.2⟩)
  obtain ⟨p0, pi, pz0, pz1, pz2⟩ : ∃ i, Tryz.prog.info? 26 = some i ∧ i.zero = some (.int .u64 0) ∧ i.size = 1 ∧ i.bytes = 8 := (by have h := Tryz.info_px8; cases hh : Tryz.prog.info? 26 with | none => rw [hh] at h; cases h | some i => rw [hh] at h; simp at h; exact ⟨i, rfl, h.1, h.2.1, h.2.2⟩)
  have hte : 3 ≠ 26 := by decide
  have HT := Lib.hid T
  have hc5 := T.c.c5
  have hc4 := T.c.c4
  obtain ⟨k, hk⟩ : ∃ k, one.length = k := ⟨_, rfl⟩
  have HK := Lib.hid hk
  have HS : Hid (w.ownsRow (b + 1) 3 1 sv k (ints one)) := by show w.ownsRow _ _ _ _ _ _; have := T.s; rw [hk] at this; exact this
  have hbw : b + 1 ≤ w.heap.size := T.c.lt
  have hk3 : k ≤ 3 := by omega
  have hblt : b < w.heap.size := hbw
  have hbne : ¬ b = w.heap.size := Nat.ne_of_lt hblt
  have m5 := cell_later (box1' w (.cells #[.int .i64 n] 3)) hc5
  have HONE := Lib.hid hone
  have HC := Lib.hid hC
  have HM := Lib.hid hm
  clear hF hone hC hk T hmm ho4 hm
  have HO := Lib.hid ho
  clear ho
  have HR := Lib.hid hr
  have HRS := Lib.hid hrows
  clear hr hrows
  have HRW := Lib.hid hrow
  clear hrow
  go_enter Tryz.func164, Tryz.ntmps164
  go_wp2_with fail
  go_cut [] from 7 to 19 (fun wx => ∃ g cc, PlT w b h sv rv n (.slice (some ⟨g, 0, none⟩) (k + 1) cc) rv (one ++ [n]) row rows 0 x wx)
  case first =>
    go_region_law (refine step_append_lies _ rfl _ _ 22 rfl (b + 1) 3 i0 (.int .i64 0) 1 8 Tryz.underlying22 hi hz0 hz1 hz2 rfl (by decide) sv k _ rfl (HS.out.alloc _) ⟨w.heap.size, 0, none⟩ 1 1 [.int .i64 n] rfl rfl (one_new _ _ _) (by simp [Value.oneCell']) (by omega) (by unfold maxLen; omega) (by omega) (by simp; omega) _ rfl ?_; intro gg cc w5 hown' hgrow' hat _; obtain ⟨q1, q2⟩ := HT.out.drew.pushS hte _ n (by have h := hown'; rw [HK.out]; exact h) hgrow' hat; have hd5 := q1.c5; have hf5 := q1.fr 5)
    all_goals
      have Q2 : Hid (PlT w b h sv rv n (.slice (some ⟨gg, 0, none⟩) (k + 1) cc) rv (one ++ [n]) row rows 0 x (w5.setCell ⟨b, 5, none⟩ (.slice (some ⟨gg, 0, none⟩) (k + 1) cc))) := by have h := q2; rw [HK.out] at h; exact h
      clear q1 q2 hown' hgrow' hat
      go_wp2_with fail
      go_meet
      case rel => exact ⟨gg, cc, Q2.out⟩
  case rest =>
    obtain ⟨g, cc, T1⟩ := hcut
    have HT1 := Lib.hid T1
    have hd4 := T1.c.c4
    have hd5 := T1.c.c5
    have hf4 := T1.c.fr 4
    clear hc5 hc4 m5 HS HT T1
    go_upto_region 3 with fail
    generalize hW : wc.setCell ⟨b, 4, none⟩ (.int .i64 0) = w2
    have HT2 : Hid (PlT w b h sv rv 0 (.slice (some ⟨g, 0, none⟩) (k + 1) cc) rv (one ++ [n]) row rows 0 x w2) := by show PlT _ _ _ _ _ _ _ _ _ _ _ _ _ _; rw [← hW]; exact HT1.out.set4 0
    clear HT1 hd4 hd5 hf4 hW
    have T2 := HT2.out
    have e0 := T2.c.c0
    have e1 := T2.c.c1
    have e2 := T2.c.c2
    have e3 := T2.c.c3
    have e5 := T2.c.c5
    clear T2
    have hBr : Below w2.heap.size w2 w2 := .refl _ _
    go_cut [34] from 23 to 34 (fun s34 wx => s34 = .bool (decide ((k : Int) + 1 < C)) ∧ Below w2.heap.size w2 wx)
    case first =>
      go_region_held3 (fun w' => w'.cell? ⟨b, 0, none⟩ = some (.int .i64 h.kd) ∧ w'.cell? ⟨b, 1, none⟩ = some (.int .i64 h.w) ∧ w'.cell? ⟨b, 2, none⟩ = some (.int .i64 h.h) ∧ w'.cell? ⟨b, 3, none⟩ = some (.int .i64 h.m) ∧ w'.cell? ⟨b, 5, none⟩ = some (.slice (some ⟨g, 0, none⟩) (k + 1) cc))
        (first | exact ⟨e0, e1, e2, e3, e5⟩ | exact ⟨cell_later hBr e0, cell_later hBr e1, cell_later hBr e2, cell_later hBr e3, cell_later hBr e5⟩)
        (first | (go_at_call 59; refine (HF.out _).mono ?_; rintro e w8 ⟨rfl, hb8⟩; replace hBr := bel_step (w := w2) (by first | exact hBr | exact hBr.drew) hb8))
      all_goals
        go_wp2_with fail
        go_meet
        case rel => exact ⟨by rfl, hBr⟩
    case rest =>
      obtain ⟨rfl, hBx⟩ := hcut
      have T3 := HT2.out.below hBx
      have htp : ¬ (k : Int) + 1 < C := by have := HONE.out; have := HK.out; omega
      have ht : decide ((k : Int) + 1 < C) = false := decide_eq_false htp
      obtain ⟨p, hp⟩ : ∃ p, Pq.Px.packV (one ++ [n]) = p := ⟨_, rfl⟩
      have HP := Lib.hid hp
      have HSL : Hid (Pq.Sl wc (some ⟨g, 0, none⟩) (k + 1) (one ++ [n])) := by
        have hk := HK.out
        have hs := T3.s
        rw [List.length_append, List.length_singleton, hk] at hs
        obtain ⟨a', c', hv, hs'⟩ := sl_of_row (z := 0) rfl hs (by rw [List.length_append, List.length_singleton, hk])
        cases hv; exact hs'
      have HPK : Hid (∀ W, Pq.Sl W (some ⟨g, 0, none⟩) (k + 1) (one ++ [n]) → Calls Tryz.prog 185 #[.slice (some ⟨g, 0, none⟩) (k + 1) cc] W fun e w' => e = .returned (.tuple #[.int .u64 p.1, .int .i64 p.2]) ∧ W = w') := fun W hs => by
        have h := Pq.pack_any (some ⟨g, 0, none⟩) (k + 1) cc (one ++ [n]) W (by omega) hs
        rw [hp] at h; exact h
      have HT3 := Lib.hid T3
      have e5 := T3.c.c5
      have f5 := T3.c.fr 5
      clear hBr hBx hp T3
      go_wp2_with fail
      refine (HPK.out _ HSL.out).mono ?_
      rintro e w9 ⟨rfl, rfl⟩
      go_upto_region 7 with fail
      generalize hW : wc.setCell ⟨b, 5, none⟩ (.slice (some ⟨g, 0, none⟩) 0 cc) = w4
      have HT4 : Hid (PlT w b h sv rv 0 (.slice (some ⟨g, 0, none⟩) 0 cc) rv [] row rows 0 x w4) := by show PlT _ _ _ _ _ _ _ _ _ _ _ _ _ _; rw [← hW]; exact HT3.out.clear (by rw [List.length_append, List.length_singleton, HK.out])
      clear HT3 e5 f5 hW HSL HPK
      have T4 := HT4.out
      have hbw4 : b + 1 ≤ w4.heap.size := T4.c.lt
      obtain ⟨r, hr⟩ : ∃ r, row.length = r := ⟨_, rfl⟩
      have HRL := Lib.hid hr
      have HR4 : Hid (w4.ownsRow (b + 1) 26 1 rv r (pixs row)) := by show World.ownsRow _ _ _ _ _ _ _; have h := T4.r; rw [hr] at h; exact h
      have hr4' : r ≤ 4096 := by omega
      have e6 := T4.c.c6
      have m6 := cell_later (box1' w4 (.cells #[.int .u64 p.1] 26)) e6
      have hb4 : b < w4.heap.size := hbw4
      have hbn4 : ¬ b = w4.heap.size := Nat.ne_of_lt hb4
      clear T4 hr hr4
      go_cut [] from 51 to 60 (fun wx => ∃ g6 c6, PlT w b h sv rv 0 (.slice (some ⟨g, 0, none⟩) 0 cc) (.slice (some ⟨g6, 0, none⟩) (r + 1) c6) [] (row ++ [p.1]) rows 0 x wx)
      case first =>
        go_wp2_with (at_builtin; refine wpList_append_lies _ rfl _ _ 29 rfl (b + 1) 26 p0 (.int .u64 0) 1 8 Tryz.underlying29 pi pz0 pz1 pz2 rfl (by decide) rv r _ rfl (HR4.out.alloc _) ⟨w4.heap.size, 0, none⟩ 1 1 [.int .u64 p.1] rfl rfl (one_new _ _ _) (by simp [Value.oneCell']) (by omega) (by unfold maxLen; omega) (by omega) (by simp; omega) _ rfl ?_; intro gg c6 w5 hown' hgrow' hat _; obtain ⟨q1, q2⟩ := HT4.out.pushR hte _ p.1 (by have h := hown'; rw [HRL.out]; exact h) hgrow' hat; have hd6 := q1.c6; have hf6 := q1.fr 6; have Q2 : Hid (PlT w b h sv rv 0 (.slice (some ⟨g, 0, none⟩) 0 cc) (.slice (some ⟨gg, 0, none⟩) (r + 1) c6) [] (row ++ [p.1]) rows 0 x (w5.setCell ⟨b, 6, none⟩ (.slice (some ⟨gg, 0, none⟩) (r + 1) c6))) := (by have h := q2; rw [HRL.out] at h; exact h); clear q1 q2 hown' hgrow' hat)
        go_meet
        case rel => exact ⟨gg, c6, Q2.out⟩
      case rest =>
        obtain ⟨g6, c6, T5⟩ := hcut
        clear m6 e6
        have HT5 := Lib.hid T5
        have e1 := T5.c.c1
        have e6 := T5.c.c6
        have hrw : ((r + 1 : Nat) : Int) = h.w := by have := HRW.out; have := HR.out; have := HRL.out; omega
        have hm := HM.out.m
        have HRWW := Lib.hid hrw
        have e2 := T5.c.c2
        have e7 := T5.c.c7
        have f6 := T5.c.fr 6
        have f7 := T5.c.fr 7
        have f8 := T5.c.fr 8
        have e8 := T5.c.c8
        have hrc : r + 1 ≤ c6 := by
          have h := T5.r
          rw [List.length_append, List.length_singleton, HRL.out] at h
          exact ownsRow_cap h
        have hcm : c6 ≤ 9223372036854775807 := by
          have h := T5.r
          rw [List.length_append, List.length_singleton, HRL.out] at h
          rcases h.2 with ⟨hv, _⟩ | ⟨_, _, _, hv, _, _, _, hx, _⟩
          · cases hv
          · cases hv; unfold maxLen at hx; exact hx
        obtain ⟨hw, hhw⟩ : ∃ hw, h.w = hw := ⟨_, rfl⟩
        rw [← hrw] at e1
        have hrd : decide (((r + 1 : Nat) : Int) < ((r + 1 : Nat) : Int)) = false := decide_eq_false (by omega)
        have hrd' : decide ((r : Int) + 1 < (r : Int) + 1) = false := decide_eq_false (by omega)
        obtain ⟨hh, hhh⟩ : ∃ hh, h.h = hh := ⟨_, rfl⟩
        rw [hhh] at e2 rows1
        have hh9 : hh ≤ 65536 := by omega
        have g1 : wrap64 (rows + 1) = rows + 1 := by rw [IntWalk.wrap64_in] <;> omega
        have hq : (rows + 1 == hh) = true := by have := HRS.out; simp; omega
        clear hrw hm hhw T5
        go_wp2_with fail
        have HRE : Hid (∀ wf, PlT w b h sv rv 0 (.slice (some ⟨g, 0, none⟩) 0 cc) (.slice none 0 0) [] [] (rows + 1) 1 x wf → SlK .u64 wf (some ⟨g6, 0, none⟩) (r + 1) (row ++ [p.1]) → TakeR w b h sv rv x [] [] (rows + 1) 1 (row ++ [(Pq.Px.packV (one ++ [n])).1]) (.returned (.slice (some ⟨g6, 0, none⟩) (r + 1) (r + 1))) wf) := by
          intro wf hT hS
          have hl : (row ++ [(Pq.Px.packV (one ++ [n])).1]).length = r + 1 := by rw [List.length_append, List.length_singleton, HRL.out]
          have hgb : b + 1 ≤ g6 := (HT5.out.r.lt g6 rfl).1
          refine ⟨some ⟨g6, 0, none⟩, r + 1, _, _, by rw [hl], hT, ?_, fun y hy => by cases hy; show g6 ≠ b; omega⟩
          rw [hl, HP.out]; exact hS
        generalize hW : (wc.setCell ⟨b, 6, none⟩ (.slice none 0 0)).setCell ⟨b, 7, none⟩ (.int .i64 (rows + 1)) = w6
        have T6 : PlT w b h sv rv 0 (.slice (some ⟨g, 0, none⟩) 0 cc) (.slice none 0 0) [] [] (rows + 1) 0 x w6 := by rw [← hW]; exact HT5.out.free.set7 (rows + 1)
        have HSR : Hid (w6.ownsRow (b + 1) 26 1 (.slice (some ⟨g6, 0, none⟩) (r + 1) c6) (r + 1) (pixs (row ++ [p.1]))) := by
          show World.ownsRow _ _ _ _ _ _ _
          have h := HT5.out.r
          rw [List.length_append, List.length_singleton, HRL.out] at h
          rw [← hW]; exact set_ownsRow (set_ownsRow h (Nat.lt_succ_self b) _) (Nat.lt_succ_self b) _
        have HT6 := Lib.hid T6
        have a2 := T6.c.c2
        have a7 := T6.c.c7
        have a8 := T6.c.c8
        have fa := T6.c.fr 8
        rw [hhh] at a2
        clear e1 e2 e6 e7 e8 f6 f7 f8 hW T6 HT5 hhh e0 e3 e5
        go_quiet (fail)
        go_wp2
        go_ret
        exact HRE.out _ (PlT.set8 ⟨HT6.out.c.drewN _, HT6.out.s, HT6.out.r, HT6.out.f.trans (.drewN _ _ _), HT6.out.ns, HT6.out.nr⟩ 1) (slk_of_row (base := b + 1) (c := c6) (set_ownsRow (w := w6.drewN _) HSR.out (Nat.lt_succ_self b) _) (by rw [List.length_append, List.length_singleton, HRL.out]))
end Go.Proofs.YtmnhiagppicegaaGreat

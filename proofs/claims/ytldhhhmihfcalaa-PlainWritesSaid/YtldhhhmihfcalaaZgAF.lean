/- Pixels of a head out of any list that came in; a text with more blanks behind each blank. Condition: the head may be, and there are not too many pixels. -/
import Derived.Test.YtldhhhmihfcalaaZgAE
import Derived.Test.YtldhhhmihfcalaaZPlPy
import Derived.Test.YtldhhhmihfcalaaZPlW1
import Derived.Test.YtldhhhmihfcalaaZPlH
import Derived.Test.YtldhhhmihfcalaaZgAA
namespace Go.Proofs.Ytldhhhmihfcalaa
open Go.RowKit
set_option linter.unusedVariables false

/-- what Pixels hands back, told -/
def PxT (N : Nat) (G : Hd.H) (w : World) (e : Ending) (w' : World) : Prop :=
  ∃ ad cp l, e = .returned (.slice ad N cp) ∧ l.length = N ∧ Pl.Fits G l ∧ SlK .u64 w' ad N l ∧ Below w.heap.size w w'
theorem refPixels_any {w0 : World} {a : Option Addr} {ln cap : Nat} {z : List Int} (hr : IsRow .i64 w0 a ln cap z) (G : Hd.H) (hm : Pl.May G) (N : Nat) (hN : G.w * G.h = (N : Int)) (hN1 : N ≤ 100000) (w : World) (hb : Below w0.heap.size w0 w) :
    Calls Try.prog 50 #[.slice a ln cap, agH G] w (PxT N G w) := by
  have hs := (isrow_takeK hr ln (Nat.le_refl _)).below hb
  have hI : ∀ x ∈ z.take ln, Nu.I x := fun x hx => wfI (isrow_wfK hr x (List.mem_of_mem_take hx))
  obtain ⟨l1, l2, l3, l4⟩ := isrow_len hr
  have hout : ∀ e w', PxR N G w e w' → PxT N G w e w' := by
    rintro e w' ⟨ad, cp, l, h1, h2, h3, h4, h5⟩
    exact ⟨ad, cp, l, h1, h2, h3, slk_of_row h4 h2, h5⟩
  by_cases hz : ln = 0
  · exact (refPixels_zero a ln cap (z.take ln) G hm N hN hN1 w hz hs hI).mono hout
  · rcases hs.2 with h | ⟨blk, off, rfl, hc⟩
    · have := hs.1; rw [h] at this; simp at this; omega
    · exact (refPixels_pos blk off ln cap (z.take ln) G hm N hN hN1 w l1 hz hs.1 hc hI).mono hout
namespace Pl
/-- more blanks behind each blank; of the kind 1 behind each byte -/
def spr (kd c : Int) (x : Int) : List Int := if Tk.blank x = true ∨ kd = 1 then [x, c, c] else [x]
def spread (kd c : Int) (t : List Int) : List Int := t.flatMap (spr kd c)
theorem spread_app (kd c : Int) (t u : List Int) : spread kd c (t ++ u) = spread kd c t ++ spread kd c u := by simp [spread]
theorem decV_digits {z : Int} (h : 0 ≤ z) : ∀ x ∈ Nu.decV z, 48 ≤ x ∧ x ≤ 57 := by
  rw [Nu.decV_up h]
  intro x hx
  rw [List.mem_reverse, List.mem_map] at hx
  obtain ⟨d, hd, rfl⟩ := hx
  have := Nu.dig_lt (b := 10) (by omega) z d hd
  omega
theorem spread_digits {kd c : Int} (hk : ¬ kd = 1) : ∀ (t : List Int), (∀ x ∈ t, 48 ≤ x ∧ x ≤ 57) → spread kd c t = t
  | [], _ => rfl
  | x :: t, h => by
    have h1 := digit_not (h x (List.mem_cons_self ..))
    have h2 := spread_digits (c := c) hk t fun y hy => h y (List.mem_cons_of_mem _ hy)
    unfold spread at *
    rw [List.flatMap_cons, h2]
    simp [spr, h1, hk]
theorem spread_blanks {kd c : Int} (hc : Tk.blank c = true) : ∀ (es : List Int), (∀ e ∈ es, Tk.blank e = true) → (∀ e ∈ spread kd c es, Tk.blank e = true) ∧ (spread kd c es).length = 3 * es.length
  | [], _ => ⟨fun e he => (by cases he), rfl⟩
  | x :: es, h => by
    have h1 := h x (List.mem_cons_self ..)
    obtain ⟨h2, h3⟩ := spread_blanks hc es fun y hy => h y (List.mem_cons_of_mem _ hy)
    have e : spread kd c (x :: es) = [x, c, c] ++ spread kd c es := by unfold spread; rw [List.flatMap_cons]; simp [spr, h1]
    rw [e]
    refine ⟨fun y hy => ?_, by rw [List.length_append, h3, List.length_cons]; simp; omega⟩
    rcases List.mem_append.1 hy with hy | hy
    · simp at hy; rcases hy with rfl | rfl
      · exact h1
      · exact hc
    · exact h2 y hy
theorem sq_spread {kd m c : Int} {b : Nat} (hc : Tk.blank c = true) : ∀ (zs t : List Int), Sq kd m b zs t → Sq kd m (3 * b + 2) zs (spread kd c t)
  | [], t, h => by unfold Sq at *; subst h; rfl
  | z :: zs, t, h => by
    obtain ⟨bs, es, t', rfl, ⟨z0, z1, h1⟩, h2, h3, h4⟩ := h
    obtain ⟨k1, k2⟩ := spread_blanks (kd := kd) hc es h2
    have ih := sq_spread hc zs t' h4
    have hcc : ∀ e ∈ [c, c] ++ spread kd c es, Tk.blank e = true := fun e he => by
      rcases List.mem_append.1 he with he | he
      · simp at he; subst he; exact hc
      · exact k1 e he
    have hll : ([c, c] ++ spread kd c es).length ≤ 3 * b + 2 := by rw [List.length_append, k2]; simp; omega
    rcases h1 with ⟨hk, hz, rfl⟩ | ⟨hk, x, hx, rfl⟩
    · refine ⟨[48 + z], [c, c] ++ spread kd c es, spread kd c t', ?_, ⟨z0, z1, .inl ⟨hk, hz, rfl⟩⟩, hcc, hll, ih⟩
      rw [spread_app, spread_app]
      simp [spread, spr, hk]
    · refine ⟨Nu.decV z ++ [x], [c, c] ++ spread kd c es, spread kd c t', ?_, ⟨z0, z1, .inr ⟨hk, x, hx, rfl⟩⟩, hcc, hll, ih⟩
      rw [spread_app, spread_app, spread_app, spread_digits hk _ (decV_digits z0)]
      simp [spread, spr, hx]
theorem spread_len (kd c : Int) : ∀ t : List Int, (spread kd c t).length ≤ 3 * t.length
  | [] => by simp [spread]
  | x :: t => by
    have h := spread_len kd c t
    unfold spread at *
    rw [List.flatMap_cons, List.length_append, List.length_cons]
    have : (spr kd c x).length ≤ 3 := by unfold spr; split <;> simp
    omega
theorem spread_succ (kd c : Int) {t : List Int} {i : Nat} (h : i < t.length) : spread kd c (t.take (i + 1)) = spread kd c (t.take i) ++ spr kd c (t.getD i 0) := by
  rw [take_getD t i h, spread_app]
  simp [spread]
theorem bytes_part {xs : List Int} (hx : ∀ x ∈ xs, 0 ≤ x ∧ x ≤ 255) {i : Nat} (h : i < xs.length) : (strOfNums xs).extract i (i + 1) = strOfNums [xs.getD i 0] := by
  have hb := bytesOf_strOfNums hx
  apply ByteArray.ext
  rw [ByteArray.data_extract]
  apply Array.toList_inj.1
  rw [Array.toList_extract, List.extract_eq_take_drop, show i + 1 - i = 1 by omega]
  show (((xs.map fun n => UInt8.ofNat n.toNat).toArray.toList.drop i).take 1) = ([xs.getD i 0].map fun n => UInt8.ofNat n.toNat)
  rw [List.drop_eq_getElem_cons (by simpa using h)]
  simp [List.getD_eq_getElem?_getD, List.getElem?_eq_getElem h]
theorem byte_get {xs : List Int} (hx : ∀ x ∈ xs, 0 ≤ x ∧ x ≤ 255) {i : Nat} (h : i < (strOfNums xs).size) (h2 : i < xs.length) : (((strOfNums xs)[i]'h).toNat : Int) = xs.getD i 0 := by
  have e : ((strOfNums xs)[i]'h) = UInt8.ofNat (xs[i]).toNat := by
    show ((xs.map fun n => UInt8.ofNat n.toNat).toArray)[i]'(by simpa using h2) = _
    simp
  have hr := hx xs[i] (List.getElem_mem h2)
  rw [e, List.getD_eq_getElem?_getD, List.getElem?_eq_getElem h2]
  simp only [Option.getD_some]
  rw [UInt8.toNat_ofNat']
  omega
theorem wAll_bytes {G : Hd.H} {l : List Int} (hl : Fits G l) : ∀ i, i ≤ l.length → ∀ x ∈ wAll G l i, 0 ≤ x ∧ x ≤ 255
  | 0, _, x, h => by cases h
  | i + 1, hi, x, h => by
    have ht : ∀ (zs : List Int) k, ∀ x ∈ wTk zs k, 0 ≤ x ∧ x ≤ 255 := by
      intro zs k
      induction k with
      | zero => intro x h; cases h
      | succ k ih =>
        intro x h
        rw [wTk_succ] at h
        rcases List.mem_append.1 h with h | h
        · rcases List.mem_append.1 h with h | h
          · exact ih x h
          · exact Nu.decV_bytes _ x h
        · split at h
          · rw [List.mem_singleton.1 h]; omega
          · cases h
    rw [wAll_succ] at h
    rcases List.mem_append.1 h with h | h
    · rcases List.mem_append.1 h with h | h
      · exact wAll_bytes hl i (by omega) x h
      · exact ht _ _ x h
    · split at h
      · rw [List.mem_singleton.1 h]; omega
      · cases h
theorem fits_all {G : Hd.H} {l : List Int} (hm : May G) (hl : Fits G l) : fitAll G l = true := by
  unfold fitAll
  rw [List.all_eq_true]
  intro p hp
  have := hm.m
  exact fits_true (hl p hp) (by omega) (by omega)
end Pl
end Go.Proofs.Ytldhhhmihfcalaa

/- Heads of rasters of digits, made of any, by the document; the document's example. Condition: a head's numbers fit. -/
namespace Go.Proofs.Ytldhhhmihfcalaa
open Go.RowKit
set_option linter.unusedVariables false

theorem Pl.headV_in (M : Int) (M0 : 1 ≤ M) (M1 : M ≤ 4096) (h : Hd.H) : Pl.May (Pl.headV M h) ∧ (Pl.headV M h).w ≤ M ∧ (Pl.headV M h).h ≤ M := by
  obtain ⟨a, b, c, d, e⟩ := Pl.goodM_in M M0 h
  unfold Pl.headV
  by_cases hk : 3 < (Pl.goodM M h).kd
  · rw [if_pos hk]
    refine ⟨⟨⟨by simp only []; omega, by simp only []; omega, by simp only []; omega, d, fun hb => ?_⟩, by simp only []; omega⟩, b.2, c.2⟩
    refine e ?_
    unfold Hd.bits at hb ⊢
    simp only [decide_eq_true_eq] at hb ⊢
    omega
  · rw [if_neg hk]
    exact ⟨⟨⟨a, by omega, by omega, d, e⟩, by omega⟩, b.2, c.2⟩
theorem may_fit {h : Hd.H} (H : Pl.May h) : Hj.Fit h := by
  have := H.m
  unfold Hj.Fit Nu.I; omega
set_option maxRecDepth 100000 in
set_option maxHeartbeats 2000000 in
theorem refHead_any (M : Int) (M0 : 1 ≤ M) (M1 : M ≤ 4096) (h : Hd.H) (hf : Hj.Fit h) (w : World) :
    Calls Try.prog 37 #[agH h, .int .i64 M] w fun e w' => e = .returned (agH (Pl.headV M h)) ∧ Below w.heap.size w w' := by
  have HG := Lib.hid (hgoodM_any M M0 (by omega) h hf)
  obtain ⟨a, b, c, d, e⟩ := Pl.goodM_in M M0 h
  have X : Hid (Pl.headV M h = if 3 < (Pl.goodM M h).kd then ⟨(Pl.goodM M h).kd - 3, (Pl.goodM M h).w, (Pl.goodM M h).h, (Pl.goodM M h).m⟩ else Pl.goodM M h) := rfl
  generalize Pl.headV M h = R at X ⊢
  generalize Pl.goodM M h = G at X HG a b c d e
  obtain ⟨kd, ww, hh, m⟩ := G
  simp only at a X
  unfold agH at HG ⊢
  clear b c d e
  by_cases h3 : 3 < kd
  · have hR : Hid (R = ⟨kd - 3, ww, hh, m⟩) := by show _ = _; rw [X.out, if_pos h3]
    have h3d : decide (3 < kd) = true := decide_eq_true h3
    have e1 : wrap64 (kd - 3) = kd - 3 := by rw [IntWalk.wrap64_in] <;> omega
    clear X
    go_enter Try.func37, Try.ntmps37
    go_wp2_with fail
    refine (HG.out _).mono ?_
    rintro e w2 ⟨rfl, hb2⟩
    have hz := (Hb.new (w.alloc (.cells #[.int .i64 h.kd, .int .i64 h.w, .int .i64 h.h, .int .i64 h.m] 42)) 42 Hd.none).later hb2
    rw [World.size_alloc] at hz
    have HZ2 := Lib.hid hz
    have HBW := Lib.hid ((((Below.refl _ w).alloc (Nat.le_refl _) _).alloc (by simp) _).trans (hb2.mono (by simp; omega)))
    have hsz : w.heap.size + 1 < w2.heap.size := hz.lt
    clear hz hb2
    go_upto_region 2 with fail
    generalize hW : w2.alloc (.cells #[.int .i64 kd, .int .i64 ww, .int .i64 hh, .int .i64 m] 42) = w4
    have HN4 : Hid (Hb w4 w2.heap.size 42 ⟨kd, ww, hh, m⟩) := by show Hb _ _ _ _; rw [← hW]; exact Hb.new w2 42 ⟨kd, ww, hh, m⟩
    have HBx : Hid (Below w2.heap.size w2 w4) := by show Below _ _ _; rw [← hW]; exact box1' _ _
    have HZ4 := Lib.hid (HZ2.out.later HBx.out)
    obtain ⟨x0, x1, x2, x3⟩ := HN4.out.cells
    obtain ⟨f0, f1, f2, f3⟩ := HN4.out.fr
    simp only at x0 x1 x2 x3
    clear hW
    go_upto_region 4 with fail
    generalize hW : w4.setCell ⟨w2.heap.size, 0, none⟩ (.int .i64 (kd - 3)) = w5
    have HB5 : Hid (Below (w.heap.size + 2) w4 w5) := by show Below _ _ _; rw [← hW]; exact (Below.refl _ w4).setCell (p := ⟨w2.heap.size, 0, none⟩) (by show _ ≤ w2.heap.size; omega) _
    have HZ5 : Hid (Hb w5 (w.heap.size + 1) 42 Hd.none) := by show Hb _ _ _ _; exact (HB5.out.block _ (by omega)).trans HZ4.out
    have HN5 : Hid (Hb w5 w2.heap.size 42 ⟨kd - 3, ww, hh, m⟩) := by
      show Hb _ _ _ _
      rw [← hW]
      have h' : w4.heap[w2.heap.size]? = _ := HN4.out
      have := Go.heap_setCell_same w4 w2.heap.size 0 _ _ (.int .i64 (kd - 3)) h'
      simpa [Hb] using this
    obtain ⟨y0, y1, y2, y3⟩ := HN5.out.cells
    obtain ⟨z0, z1, z2, z3⟩ := HZ5.out.cells
    obtain ⟨g0, g1, g2, g3⟩ := HZ5.out.fr
    simp only at y0 y1 y2 y3
    clear hW x0 x1 x2 x3 f0 f1 f2 f3
    go_wp2
    refine bodyPost_ret (Hj.ret1 Try.results37 _ _ _ _ rfl (load_rh (HZ5.out.put ⟨kd - 3, ww, hh, m⟩))) rfl ?_
    refine ⟨by rw [hR.out]; rfl, ?_⟩
    have hb5 := (HBW.out.trans (HBx.out.mono HBW.out.size)).trans (HB5.out.mono (Nat.le_add_right _ _))
    exact (((hb5.setCell (Nat.le_succ _) _).setCell (Nat.le_succ _) _).setCell (Nat.le_succ _) _).setCell (Nat.le_succ _) _
  · have hR : Hid (R = ⟨kd, ww, hh, m⟩) := by show _ = _; rw [X.out, if_neg h3]
    have h3d : decide (3 < kd) = false := decide_eq_false h3
    clear X
    go_enter Try.func37, Try.ntmps37
    go_wp2_with fail
    refine (HG.out _).mono ?_
    rintro e w2 ⟨rfl, hb2⟩
    have hz := (Hb.new (w.alloc (.cells #[.int .i64 h.kd, .int .i64 h.w, .int .i64 h.h, .int .i64 h.m] 42)) 42 Hd.none).later hb2
    rw [World.size_alloc] at hz
    have HZ2 := Lib.hid hz
    have HBW := Lib.hid ((((Below.refl _ w).alloc (Nat.le_refl _) _).alloc (by simp) _).trans (hb2.mono (by simp; omega)))
    have hsz : w.heap.size + 1 < w2.heap.size := hz.lt
    clear hz hb2
    go_upto_region 2 with fail
    generalize hW : w2.alloc (.cells #[.int .i64 kd, .int .i64 ww, .int .i64 hh, .int .i64 m] 42) = w4
    have HN4 : Hid (Hb w4 w2.heap.size 42 ⟨kd, ww, hh, m⟩) := by show Hb _ _ _ _; rw [← hW]; exact Hb.new w2 42 ⟨kd, ww, hh, m⟩
    have HBx : Hid (Below w2.heap.size w2 w4) := by show Below _ _ _; rw [← hW]; exact box1' _ _
    have HZ4 := Lib.hid (HZ2.out.later HBx.out)
    obtain ⟨x0, x1, x2, x3⟩ := HN4.out.cells
    obtain ⟨z0, z1, z2, z3⟩ := HZ4.out.cells
    obtain ⟨g0, g1, g2, g3⟩ := HZ4.out.fr
    simp only at x0 x1 x2 x3
    clear hW
    go_wp2
    refine bodyPost_ret (Hj.ret1 Try.results37 _ _ _ _ rfl (load_rh (HZ4.out.put ⟨kd, ww, hh, m⟩))) rfl ?_
    refine ⟨by rw [hR.out]; rfl, ?_⟩
    have hb5 := HBW.out.trans (HBx.out.mono HBW.out.size)
    exact (((hb5.setCell (Nat.le_succ _) _).setCell (Nat.le_succ _) _).setCell (Nat.le_succ _) _).setCell (Nat.le_succ _) _
theorem Pl.example1 : Pl.readV ⟨1, 3, 1, 1⟩ (bytesOf ⟨#[49, 32, 48, 49, 120]⟩) = ([281474976710657, 281474976710656, 281474976710657], 4, 0) := by decide
set_option maxHeartbeats 2000000 in
theorem lives8_any (w : World) :
    Calls Try.prog 41 #[] w fun e w' => e = .returned (.bool true) ∧ Below w.heap.size w w' := by
  have hR := plRead_any ⟨#[49, 32, 48, 49, 120]⟩ (by decide) ⟨1, 3, 1, 1⟩ (by unfold Hj.Fit Nu.I; decide) 
  rw [Pl.example1] at hR
  unfold RdR agH at hR
  simp only at hR
  have HR := Lib.hid hR
  clear hR
  go_enter Try.func41, Try.ntmps41
  go_wp2_with fail
  refine (HR.out _).mono ?_
  rintro e w2 ⟨a, c, rfl, hS, hb2⟩
  have HB2 := Lib.hid hb2
  have HS2 := Lib.hid hS
  have hQ := Su.sameRow_any a (some ⟨w2.heap.size, 0, none⟩) 3 3 c 3 [281474976710657, 281474976710656, 281474976710657] [281474976710657, 281474976710656, 281474976710657] (w2.alloc (.cells #[.int .u64 281474976710657, .int .u64 281474976710656, .int .u64 281474976710657] 88)) (by omega) (hS.below (box1' _ _)) (ownK_lit w2 _ _ _ rfl).sl
  rw [decide_eq_true rfl] at hQ
  have HQ := Lib.hid hQ
  clear hS hQ hb2
  go_wp2_with (go_at_call 40; refine HQ.out.mono ?_; rintro e w3 ⟨rfl, hb3⟩)
  go_ret
  exact ⟨rfl, (HB2.out.alloc HB2.out.size _).trans (hb3.mono (by have := HB2.out.size; simp; omega))⟩
end Go.Proofs.Ytldhhhmihfcalaa

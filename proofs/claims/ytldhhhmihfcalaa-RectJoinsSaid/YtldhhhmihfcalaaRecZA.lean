/- Two matrices in one. Condition: both fit, and do not overlap. -/
import Derived.Test.YtldhhhmihfcalaaRecZ
namespace Go.Proofs.Ytldhhhmihfcalaa
open Go.RowKit
set_option linter.unusedVariables false

theorem Sb.far {w w' : World} {b : Nat} {t : TypeId} {u v x : Value} {g : Nat} (h : Sb w b t u v x) (hg : w.grownBy w' (some g)) (hne : b ≠ g) : Sb w' b t u v x := (hg.block b h.lt (by intro e; injection e with e; exact hne e)).trans h
theorem Pc.later {w w1 : World} {b : Nat} {t : TypeId} {x y : Int} (h : Pc w b t x y) (hb : Below w.heap.size w w1) : Pc w1 b t x y := h.below hb h.lt
theorem Pc.far {w w' : World} {b : Nat} {t : TypeId} {x y : Int} {g : Nat} (h : Pc w b t x y) (hg : w.grownBy w' (some g)) (hne : b ≠ g) : Pc w' b t x y := (hg.block b h.lt (by intro e; injection e with e; exact hne e)).trans h
/-- noughts, in rows -/
def noughtF (W : Nat) (_ : Nat) : List Int := List.replicate W 0
theorem nought_rows (W : Nat) : ∀ n, Rc.rowsOf (noughtF W) n = List.replicate (n * W) 0
  | 0 => by simp [Rc.rowsOf_zero]
  | n + 1 => by rw [Rc.rowsOf_succ, nought_rows W n]; simp [noughtF, Nat.succ_mul, List.replicate_append_replicate]
/-- a matrix's rows, by their places -/
def rowF (L : List Int) (p : Int) (k : Nat) : List Int := Rc.cutL L p 0 k p
theorem rowF_len {p q : Int} {L : List Int} (h : Rc.Ok p q L) : ∀ k, k < q.toNat → (rowF L p k).length = p.toNat := fun k hk => by
  obtain ⟨h1, h2, h3, h4, h5, h6⟩ := h
  exact Rc.cutL_length h6 (by rw [Rc.insV_iff]; omega) (by rw [Rc.insV_iff]; omega)
/-- the two in one -/
def twoL (W H Wa Ha Wb Hb x y : Int) (La Lb : List Int) : List Int := Rc.rowsOf (putF (putF (noughtF W.toNat) (rowF La Wa) 0 0 Ha.toNat) (rowF Lb Wb) x.toNat y.toNat Hb.toNat) H.toNat
set_option maxRecDepth 100000 in
set_option maxHeartbeats 4000000 in
theorem together_yes (W H Wa Ha Wb Hb x y : Int) (aa ab : Option Addr) (ca cb : Nat) (La Lb : List Int) (hs : Rc.sized W H = true) (ha : Rc.Ok Wa Ha La) (hb : Rc.Ok Wb Hb Lb) (hca : La.length ≤ ca) (hca2 : ca ≤ 9223372036854775807) (hcb : Lb.length ≤ cb) (hcb2 : cb ≤ 9223372036854775807)
    (hxa : Rc.insV 0 Wa W = true) (hya : Rc.insV 0 Ha H = true) (hxb : Rc.insV x Wb W = true) (hyb : Rc.insV y Hb H = true) (w : World) (sa : SlK .u64 w aa La.length La) (sb : SlK .u64 w ab Lb.length Lb) :
    Calls Try.prog 58 #[.int .i64 W, .int .i64 H, .agg #[.int .i64 Wa, .int .i64 Ha, .slice aa La.length ca], .agg #[.int .i64 Wb, .int .i64 Hb, .slice ab Lb.length cb], .agg #[.int .i64 x, .int .i64 y]] w fun e w' =>
      ∃ g, e = .returned (.tuple #[.agg #[.int .i64 W, .int .i64 H, .slice (some ⟨g, 0, none⟩) (H.toNat * W.toNat) (H.toNat * W.toNat)], .int .i64 0]) ∧ OwnG w.heap.size w' g (twoL W H Wa Ha Wb Hb x y La Lb) ∧ Below w.heap.size w w' := by
  obtain ⟨s1, s2, s3, s4, s5⟩ := Rc.sized_iff.1 hs
  obtain ⟨ba, oa, rfl, hsa⟩ := slk_pos sa (ok_pos ha)
  obtain ⟨bb, ob, rfl, hsb⟩ := slk_pos sb (ok_pos hb)
  have hba : ba < w.heap.size := World.block_lt_of_cell? _ _ (hsa 0 (ok_pos ha))
  have hbb : bb < w.heap.size := World.block_lt_of_cell? _ _ (hsb 0 (ok_pos hb))
  obtain ⟨n, hn⟩ : ∃ n, H.toNat * W.toNat = n := ⟨_, rfl⟩
  have hNew := Lib.hid (fun W2 => new_any W H W2 hs)
  rw [hn] at hNew ⊢
  have hF0 : ∀ j, j < H.toNat → (noughtF W.toNat j).length = W.toNat := fun j hj => by simp [noughtF]
  have hF1 : ∀ j, j < H.toNat → (putF (noughtF W.toNat) (rowF La Wa) 0 0 Ha.toNat j).length = W.toNat := putF_len hF0 (rowF_len ha) (by have := Rc.insV_iff.1 hxa; omega)
  have hM0 : Rc.Ok W H (Rc.rowsOf (noughtF W.toNat) H.toNat) := ⟨s1, s2, s3, s4, s5, Rc.rowsOf_length hF0⟩
  have hM1 : Rc.Ok W H (Rc.rowsOf (putF (noughtF W.toNat) (rowF La Wa) 0 0 Ha.toNat) H.toNat) := ⟨s1, s2, s3, s4, s5, Rc.rowsOf_length hF1⟩
  have hP1 := Lib.hid (fun (g : Nat) (W2 : World) h1 h2 h3 h4 => put_any W H Wa Ha 0 0 g n ba oa La.length ca (noughtF W.toNat) La hM0 hF0 (by rw [Rc.rowsOf_length hF0, hn]) ha rfl hca hca2 hxa hya W2 h1 h2 h3 h4)
  have hP2 := Lib.hid (fun (g : Nat) (W2 : World) h1 h2 h3 h4 => put_any W H Wb Hb x y g n bb ob Lb.length cb (putF (noughtF W.toNat) (rowF La Wa) 0 0 Ha.toNat) Lb hM1 hF1 (by rw [Rc.rowsOf_length hF1, hn]) hb rfl hcb hcb2 hxb hyb W2 h1 h2 h3 h4)
  have HT : Hid (Rc.rowsOf (putF (putF (noughtF W.toNat) (rowF La Wa) 0 0 Ha.toNat) (fun k => Rc.cutL Lb Wb 0 k Wb) x.toNat y.toNat Hb.toNat) H.toNat = twoL W H Wa Ha Wb Hb x y La Lb) := Lib.hid rfl
  have HR0 := Lib.hid (nought_rows W.toNat H.toNat)
  rw [hn] at HR0
  obtain ⟨T, hT⟩ : ∃ T, twoL W H Wa Ha Wb Hb x y La Lb = T := ⟨_, rfl⟩
  rw [hT] at HT ⊢
  have HSA := Lib.hid hsa; have HSB := Lib.hid hsb
  generalize La.length = na at hP1 HSA
  generalize Lb.length = nb at hP2 HSB
  clear hT hF0 hF1 hM0 hM1 hs ha hb hca hca2 hcb hcb2 hxa hya hxb hyb sa sb hsa hsb hn
  have hA : Sb ((((w.alloc (.cells #[.int .i64 Wa, .int .i64 Ha, .slice (some ⟨ba, oa, none⟩) na ca] 27)).alloc (.cells #[.int .i64 Wb, .int .i64 Hb, .slice (some ⟨bb, ob, none⟩) nb cb] 27)).alloc (.cells #[.int .i64 x, .int .i64 y] 101)).alloc (.cells #[.int .i64 0, .int .i64 0, .slice none 0 0] 27)) w.heap.size 27 (.int .i64 Wa) (.int .i64 Ha) (.slice (some ⟨ba, oa, none⟩) na ca) := (((Sb.new _ _ _ _ _).alloc _).alloc _).alloc _
  have hBm : Sb ((((w.alloc (.cells #[.int .i64 Wa, .int .i64 Ha, .slice (some ⟨ba, oa, none⟩) na ca] 27)).alloc (.cells #[.int .i64 Wb, .int .i64 Hb, .slice (some ⟨bb, ob, none⟩) nb cb] 27)).alloc (.cells #[.int .i64 x, .int .i64 y] 101)).alloc (.cells #[.int .i64 0, .int .i64 0, .slice none 0 0] 27)) (w.heap.size + 1) 27 (.int .i64 Wb) (.int .i64 Hb) (.slice (some ⟨bb, ob, none⟩) nb cb) := Sb.alloc (Sb.alloc (by simpa using Sb.new (w.alloc (.cells #[.int .i64 Wa, .int .i64 Ha, .slice (some ⟨ba, oa, none⟩) na ca] 27)) 27 (.int .i64 Wb) (.int .i64 Hb) (.slice (some ⟨bb, ob, none⟩) nb cb)) _) _
  have hPc : Pc ((((w.alloc (.cells #[.int .i64 Wa, .int .i64 Ha, .slice (some ⟨ba, oa, none⟩) na ca] 27)).alloc (.cells #[.int .i64 Wb, .int .i64 Hb, .slice (some ⟨bb, ob, none⟩) nb cb] 27)).alloc (.cells #[.int .i64 x, .int .i64 y] 101)).alloc (.cells #[.int .i64 0, .int .i64 0, .slice none 0 0] 27)) (w.heap.size + 1 + 1) 101 x y := by
    have := heapNew ((w.alloc (.cells #[.int .i64 Wa, .int .i64 Ha, .slice (some ⟨ba, oa, none⟩) na ca] 27)).alloc (.cells #[.int .i64 Wb, .int .i64 Hb, .slice (some ⟨bb, ob, none⟩) nb cb] 27)) (.cells #[.int .i64 x, .int .i64 y] 101)
    simp only [World.size_alloc] at this
    exact heapOld _ _ this
  have hZ : Sb ((((w.alloc (.cells #[.int .i64 Wa, .int .i64 Ha, .slice (some ⟨ba, oa, none⟩) na ca] 27)).alloc (.cells #[.int .i64 Wb, .int .i64 Hb, .slice (some ⟨bb, ob, none⟩) nb cb] 27)).alloc (.cells #[.int .i64 x, .int .i64 y] 101)).alloc (.cells #[.int .i64 0, .int .i64 0, .slice none 0 0] 27)) (w.heap.size + 1 + 1 + 1) 27 (.int .i64 0) (.int .i64 0) (.slice none 0 0) := by
    have := heapNew (((w.alloc (.cells #[.int .i64 Wa, .int .i64 Ha, .slice (some ⟨ba, oa, none⟩) na ca] 27)).alloc (.cells #[.int .i64 Wb, .int .i64 Hb, .slice (some ⟨bb, ob, none⟩) nb cb] 27)).alloc (.cells #[.int .i64 x, .int .i64 y] 101)) (.cells #[.int .i64 0, .int .i64 0, .slice none 0 0] 27)
    simp only [World.size_alloc] at this
    exact this
  have hB : Below w.heap.size w ((((w.alloc (.cells #[.int .i64 Wa, .int .i64 Ha, .slice (some ⟨ba, oa, none⟩) na ca] 27)).alloc (.cells #[.int .i64 Wb, .int .i64 Hb, .slice (some ⟨bb, ob, none⟩) nb cb] 27)).alloc (.cells #[.int .i64 x, .int .i64 y] 101)).alloc (.cells #[.int .i64 0, .int .i64 0, .slice none 0 0] 27)) := by go_grown
  have HA := Lib.hid hA; have HBm := Lib.hid hBm; have HPc := Lib.hid hPc; have HZ := Lib.hid hZ; have HB := Lib.hid hB
  clear hA hBm hPc hZ hB
  go_enter Try.func58, Try.ntmps58
  go_wp2_with fail
  refine (hNew.out _).mono ?_
  rintro e w1 ⟨g, rfl, og, hb1⟩
  have hszb := hb1.size
  have hsz : w.heap.size + 4 ≤ w1.heap.size := by have := hszb; simp at this; omega
  have hgw : w.heap.size + 4 ≤ g := by have := og.1; simp at this; omega
  have hbb1 := hb1.trans ((box1 w1 (.cells #[.int .i64 W, .int .i64 H, .slice (some ⟨g, 0, none⟩) n n] 27)).mono hszb)
  have A1 := Lib.hid (HA.out.later hbb1); have B1 := Lib.hid (HBm.out.later hbb1); have P1 := Lib.hid (HPc.out.later hbb1); have Z1 := Lib.hid (HZ.out.later hbb1)
  have V1 := Lib.hid (bel_step HB.out hbb1)
  have M1 := Lib.hid (Sb.new w1 27 (.int .i64 W) (.int .i64 H) (.slice (some ⟨g, 0, none⟩) n n))
  have G1 := Lib.hid ((og.later (box1 w1 (.cells #[.int .i64 W, .int .i64 H, .slice (some ⟨g, 0, none⟩) n n] 27))).mono (Nat.zero_le _))
  have hgl := og.lt
  clear hszb hb1 og hbb1
  go_upto_region 4 with fail
  obtain ⟨W1, hW1⟩ : ∃ W1, w1.alloc (.cells #[.int .i64 W, .int .i64 H, .slice (some ⟨g, 0, none⟩) n n] 27) = W1 := ⟨_, rfl⟩
  have hsW : W1.heap.size = w1.heap.size + 1 := by rw [← hW1]; simp
  rw [hW1] at A1 B1 P1 Z1 V1 M1 G1 ⊢
  obtain ⟨m0, m1, m2⟩ := M1.out.cells
  obtain ⟨a0, a1, a2⟩ := A1.out.cells
  clear hW1 HA HBm HPc HZ HB
  go_wp2_with fail
  refine (hP1.out g W1 (by rw [HR0.out]; exact G1.out) (fun i hi => cell_later V1.out (HSA.out i hi)) (by omega) (by omega)).mono ?_
  rintro e w2 ⟨rfl, g2, gb2⟩
  have hs2 := gb2.size
  have B2 := Lib.hid (B1.out.far gb2 (by omega)); have P2 := Lib.hid (P1.out.far gb2 (by omega)); have Z2 := Lib.hid (Z1.out.far gb2 (by omega)); have M2 := Lib.hid (M1.out.far gb2 (by omega))
  have V2 := Lib.hid (V1.out.grown gb2 (by omega) (fun j ej => by injection ej with ej; omega))
  have G2 := Lib.hid g2
  have C2 := Lib.hid (fun i (hi : i < nb) => (gb2.cell_far ⟨bb, ob + i, none⟩ (by show bb < _; omega) (by show some bb ≠ _; intro e; injection e with e; omega)).trans (cell_later V1.out (HSB.out i hi)))
  obtain ⟨n0, n1, n2⟩ := M2.out.cells
  obtain ⟨b0, b1, b2⟩ := B2.out.cells
  obtain ⟨q0, q1⟩ := P2.out.cells
  clear g2 gb2 m0 m1 m2 a0 a1 a2
  go_wp2_with fail
  refine (hP2.out g w2 G2.out C2.out (by omega) (by omega)).mono ?_
  rw [HT.out]
  rintro e w3 ⟨rfl, g3, gb3⟩
  have hs3 := gb3.size
  have Z3 := Lib.hid (Z2.out.far gb3 (by omega)); have M3 := Lib.hid (M2.out.far gb3 (by omega))
  have V3 := Lib.hid (V2.out.grown gb3 (by omega) (fun j ej => by injection ej with ej; omega))
  have G3 := Lib.hid g3
  obtain ⟨x0, x1, x2⟩ := M3.out.cells
  obtain ⟨z0, z1, z2⟩ := Z3.out.cells
  obtain ⟨y0, y1, y2⟩ := Z3.out.fr
  clear g3 gb3 n0 n1 n2 b0 b1 b2 q0 q1
  go_wp2_with fail
  have R := Z3.out.put (.int .i64 W) (.int .i64 H) (.slice (some ⟨g, 0, none⟩) n n)
  refine bodyPost_ret (ret_cell2 Try.results58 _ _ _ _ rfl (load_mt R)) rfl ?_
  have G4 := ((G3.out.set ⟨w.heap.size + 1 + 1 + 1, 0, none⟩ (.int .i64 W) (by simp; omega)).set ⟨w.heap.size + 1 + 1 + 1, 1, none⟩ (.int .i64 H) (by simp; omega)).set ⟨w.heap.size + 1 + 1 + 1, 2, none⟩ (.slice (some ⟨g, 0, none⟩) n n) (by simp; omega)
  exact ⟨g, rfl, ⟨by omega, G4.2⟩, ((V3.out.setCell (p := ⟨w.heap.size + 1 + 1 + 1, 0, none⟩) (by simp; omega) (.int .i64 W)).setCell (p := ⟨w.heap.size + 1 + 1 + 1, 1, none⟩) (by simp; omega) (.int .i64 H)).setCell (p := ⟨w.heap.size + 1 + 1 + 1, 2, none⟩) (by simp; omega) (.slice (some ⟨g, 0, none⟩) n n)⟩
end Go.Proofs.Ytldhhhmihfcalaa

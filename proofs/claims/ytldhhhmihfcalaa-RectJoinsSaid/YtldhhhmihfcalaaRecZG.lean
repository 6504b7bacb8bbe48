/- One matrix right of another, by the document. Condition: both may be. -/
import Derived.Test.YtldhhhmihfcalaaRecZD
import Derived.Test.YtldhhhmihfcalaaRecY
import Derived.Deep.Cut
namespace Go.Proofs.Ytldhhhmihfcalaa
open Go.RowKit
set_option linter.unusedVariables false

/-- a row by the document, told -/
theorem row_told {p q : Int} {a : Option Addr} {c : Nat} {L : List Int} {W2 : World} (h : Rc.Ok p q L) (hc : L.length ≤ c) (hc2 : c ≤ 9223372036854775807) (k : Nat) (hk : k < q.toNat) (hs : SlK .u64 W2 a L.length L) :
    Calls Try.prog 61 #[.agg #[.int .i64 p, .int .i64 q, .slice a L.length c], .int .i64 k] W2 (LineR (rowF L p k) W2) := by
  have h1 := refRow_any p q k a c L h hc hc2 W2 hs
  have hk' : Rc.insV (k : Int) 1 q = true := by rw [Rc.insV_iff]; omega
  obtain ⟨p1, p2, p3, p4⟩ := place h (x := 0) (n := p) (by rw [Rc.insV_iff]; have := h.1; omega) hk'
  rw [hk', show lineK true (fun i : Nat => L.getD ((k : Int).toNat * p.toNat + i) 0) p.toNat = rowF L p k by unfold rowF; rw [cut_map p3]; simp [lineK]] at h1
  exact h1
set_option maxRecDepth 100000 in
set_option maxHeartbeats 4000000 in
theorem refBeside_yes (Wa Ha Wb Hb : Int) (aa ab : Option Addr) (ca cb : Nat) (La Lb : List Int) (ha : Rc.Ok Wa Ha La) (hb : Rc.Ok Wb Hb Lb) (heq : Ha = Hb) (hs : Rc.sized (Wa + Wb) Ha = true) (hca : La.length ≤ ca) (hca2 : ca ≤ 9223372036854775807) (hcb : Lb.length ≤ cb) (hcb2 : cb ≤ 9223372036854775807)
    (w : World) (sa : SlK .u64 w aa La.length La) (sb : SlK .u64 w ab Lb.length Lb) :
    Calls Try.prog 16 #[.agg #[.int .i64 Wa, .int .i64 Ha, .slice aa La.length ca], .agg #[.int .i64 Wb, .int .i64 Hb, .slice ab Lb.length cb]] w fun e w' =>
      ∃ ad c, e = .returned (.tuple #[.agg #[.int .i64 (Wa + Wb), .int .i64 Ha, .slice ad (Rc.rowsOf (fun k => rowF La Wa k ++ rowF Lb Wb k) Ha.toNat).length c], .int .i64 0]) ∧ OwnK .u64 w.heap.size w' ad (Rc.rowsOf (fun k => rowF La Wa k ++ rowF Lb Wb k) Ha.toNat) ∧ (Rc.rowsOf (fun k => rowF La Wa k ++ rowF Lb Wb k) Ha.toNat).length ≤ c ∧ c ≤ 9223372036854775807 ∧ Below w.heap.size w w' := by
  obtain ⟨s1, s2, s3, s4, s5⟩ := Rc.sized_iff.1 hs
  have hna := ok_len ha; have hnb := ok_len hb
  have hpa := ok_pos ha; have hpb := ok_pos hb
  obtain ⟨ada, rfl, hsa⟩ := slk_src sa hpa
  obtain ⟨adb, rfl, hsb⟩ := slk_src sb hpb
  have hMa := Lib.hid (fun W2 => refMay_any Wa Ha (some ada) La.length ca (by omega) W2)
  have hMb := Lib.hid (fun W2 => refMay_any Wb Hb (some adb) Lb.length cb (by omega) W2)
  rw [Rc.ok_may ha] at hMa
  rw [Rc.ok_may hb] at hMb
  obtain ⟨u1, u2, u3, u4, u5, u6⟩ := id ha
  obtain ⟨v1, v2, v3, v4, v5, v6⟩ := id hb
  have hS := Lib.hid (fun W2 => refSized_any (Wa + Wb) Ha W2)
  rw [hs] at hS
  have e1 : wrap64 (Wa + Wb) = Wa + Wb := by rw [IntWalk.wrap64_in] <;> omega
  have e2 : IntKind.i64.wrap (Wa + Wb) = Wa + Wb := by rw [IntWalk.i64_in] <;> omega
  have hne : (Ha != Hb) = false := by rw [heq]; simp
  obtain ⟨i0, hi, hz0, hz1, hz2⟩ := info_parts Try.info_px
  have HRA := Lib.hid (fun (k : Nat) (W2 : World) (hk : k < Ha.toNat) (h : Below w.heap.size w W2) => row_told (W2 := W2) ha hca hca2 k hk (sa.below h))
  have HRB := Lib.hid (fun (k : Nat) (W2 : World) (hk : k < Hb.toNat) (h : Below w.heap.size w W2) => row_told (W2 := W2) hb hcb hcb2 k hk (sb.below h))
  have HFL : Hid (∀ k, k < Ha.toNat → (rowF La Wa k ++ rowF Lb Wb k).length = Wa.toNat + Wb.toNat) := Lib.hid (fun k hk => by rw [List.length_append, rowF_len ha k hk, rowF_len hb k (by rw [← heq]; exact hk)])
  have HEQ := Lib.hid heq
  have HFA := Lib.hid (rowF_len ha)
  have HFB := Lib.hid (rowF_len hb)
  have hmax : Ha.toNat * (Wa.toNat + Wb.toNat) ≤ 16777216 := by
    have h1 : ((Ha.toNat * (Wa.toNat + Wb.toNat) : Nat) : Int) = (Wa + Wb) * Ha := by rw [Int.natCast_mul, Int.natCast_add, Int.toNat_of_nonneg (by omega), Int.toNat_of_nonneg (by omega), Int.toNat_of_nonneg (by omega), Int.mul_comm]
    omega
  obtain ⟨na, hla⟩ : ∃ n, La.length = n := ⟨_, rfl⟩
  obtain ⟨nb, hlb⟩ : ∃ n, Lb.length = n := ⟨_, rfl⟩
  rw [hla] at hMa hna hpa HRA
  rw [hlb] at hMb hnb hpb HRB
  rw [hla, hlb]
  obtain ⟨F, hF⟩ : ∃ F : Nat → List Int, (fun k => rowF La Wa k ++ rowF Lb Wb k) = F := ⟨_, rfl⟩
  have HF := Lib.hid (fun k => congrFun hF k)
  rw [hF]
  have HLA := Lib.hid hla; have HLB := Lib.hid hlb
  clear hF hla hlb ha hb hs sa sb u5 u6 v5 v6 s5 hca hca2 hcb hcb2 heq hsa hsb
  have hA : Sb (((w.alloc (.cells #[.int .i64 Wa, .int .i64 Ha, .slice (some ada) na ca] 24)).alloc (.cells #[.int .i64 Wb, .int .i64 Hb, .slice (some adb) nb cb] 24)).alloc (.cells #[.int .i64 0, .int .i64 0, .slice none 0 0] 24)) w.heap.size 24 (.int .i64 Wa) (.int .i64 Ha) (.slice (some ada) na ca) := ((Sb.new _ _ _ _ _).alloc _).alloc _
  have hBm : Sb (((w.alloc (.cells #[.int .i64 Wa, .int .i64 Ha, .slice (some ada) na ca] 24)).alloc (.cells #[.int .i64 Wb, .int .i64 Hb, .slice (some adb) nb cb] 24)).alloc (.cells #[.int .i64 0, .int .i64 0, .slice none 0 0] 24)) (w.heap.size + 1) 24 (.int .i64 Wb) (.int .i64 Hb) (.slice (some adb) nb cb) := Sb.alloc (by simpa using Sb.new (w.alloc (.cells #[.int .i64 Wa, .int .i64 Ha, .slice (some ada) na ca] 24)) 24 (.int .i64 Wb) (.int .i64 Hb) (.slice (some adb) nb cb)) _
  have hZ : Sb (((w.alloc (.cells #[.int .i64 Wa, .int .i64 Ha, .slice (some ada) na ca] 24)).alloc (.cells #[.int .i64 Wb, .int .i64 Hb, .slice (some adb) nb cb] 24)).alloc (.cells #[.int .i64 0, .int .i64 0, .slice none 0 0] 24)) (w.heap.size + 1 + 1) 24 (.int .i64 0) (.int .i64 0) (.slice none 0 0) := by
    have := heapNew ((w.alloc (.cells #[.int .i64 Wa, .int .i64 Ha, .slice (some ada) na ca] 24)).alloc (.cells #[.int .i64 Wb, .int .i64 Hb, .slice (some adb) nb cb] 24)) (.cells #[.int .i64 0, .int .i64 0, .slice none 0 0] 24)
    simp only [World.size_alloc] at this
    exact this
  have hB : Below w.heap.size w (((w.alloc (.cells #[.int .i64 Wa, .int .i64 Ha, .slice (some ada) na ca] 24)).alloc (.cells #[.int .i64 Wb, .int .i64 Hb, .slice (some adb) nb cb] 24)).alloc (.cells #[.int .i64 0, .int .i64 0, .slice none 0 0] 24)) := by go_grown
  have HA := Lib.hid hA; have HBm := Lib.hid hBm; have HZ := Lib.hid hZ; have HB := Lib.hid hB
  clear hA hBm hZ hB
  go_enter Try.func16, Try.ntmps16
  go_upto_region 1 with fail
  obtain ⟨W0, hW0⟩ : ∃ W0, (((w.alloc (.cells #[.int .i64 Wa, .int .i64 Ha, .slice (some ada) na ca] 24)).alloc (.cells #[.int .i64 Wb, .int .i64 Hb, .slice (some adb) nb cb] 24)).alloc (.cells #[.int .i64 0, .int .i64 0, .slice none 0 0] 24)) = W0 := ⟨_, rfl⟩
  have hs0 : W0.heap.size = w.heap.size + 3 := by rw [← hW0]; simp
  rw [hW0] at HA HBm HZ HB ⊢
  obtain ⟨a0, a1, a2⟩ := HA.out.cells
  clear hW0
  go_wp2_with fail
  refine (hMa.out _).mono ?_
  rintro e w1 ⟨rfl, hb1⟩
  have A1 := Lib.hid (HA.out.later hb1); have B1 := Lib.hid (HBm.out.later hb1); have Z1 := Lib.hid (HZ.out.later hb1); have V1 := Lib.hid (bel_step HB.out hb1)
  have hs1 := hb1.size
  obtain ⟨b0, b1, b2⟩ := B1.out.cells
  clear hb1 a0 a1 a2
  go_wp2_with fail
  refine (hMb.out _).mono ?_
  rintro e w2 ⟨rfl, hb2⟩
  have hbx := hb2.trans ((box1 w2 (.cells #[.int .i64 (Wa + Wb), .int .i64 Ha, .slice none 0 0] 24)).mono hb2.size)
  have A2 := Lib.hid (A1.out.later hb2); have B2 := Lib.hid (B1.out.later hb2)
  have A3 := Lib.hid (A1.out.later hbx); have B3 := Lib.hid (B1.out.later hbx); have Z3 := Lib.hid (Z1.out.later hbx); have V3 := Lib.hid (bel_step V1.out hbx)
  have O3 := Lib.hid (Sb.new w2 24 (.int .i64 (Wa + Wb)) (.int .i64 Ha) (.slice none 0 0))
  have hs2 := hb2.size
  obtain ⟨a0, a1, a2⟩ := A2.out.cells
  clear hb2 hbx b0 b1 b2
  obtain ⟨b0, b1, b2⟩ := B2.out.cells
  go_upto_region 6 with fail
  obtain ⟨W3, hW3⟩ : ∃ W3, w2.alloc (.cells #[.int .i64 (Wa + Wb), .int .i64 Ha, .slice none 0 0] 24) = W3 := ⟨_, rfl⟩
  have hs3 : W3.heap.size = w2.heap.size + 1 := by rw [← hW3]; simp
  rw [hW3] at A3 B3 Z3 V3 O3 ⊢
  clear a0 a1 a2 b0 b1 b2 hW3 A2 B2
  obtain ⟨a0, a1, a2⟩ := A3.out.cells
  obtain ⟨o0, o1, o2⟩ := O3.out.cells
  obtain ⟨p0, p1, p2⟩ := O3.out.fr
  go_wp2_with fail
  refine (hS.out _).mono ?_
  rintro e w4 ⟨rfl, rfl⟩
  go_wp2_with fail
  clear a0 a1 a2 o0 o1 o2 p0 p1 p2
  have hW9 : (Wa + Wb).toNat = Wa.toNat + Wb.toNat := by omega
  go_loopg [10] Ha.toNat (fun g s10 wr => ∃ (k : Nat) (v : Value), k + g = Ha.toNat ∧ s10 = .int .i64 k ∧ Below w.heap.size w wr ∧ W3.heap.size ≤ wr.heap.size ∧ Sb wr w.heap.size 24 (.int .i64 Wa) (.int .i64 Ha) (.slice (some ada) na ca) ∧ Sb wr (w.heap.size + 1) 24 (.int .i64 Wb) (.int .i64 Hb) (.slice (some adb) nb cb) ∧ Sb wr (w.heap.size + 1 + 1) 24 (.int .i64 0) (.int .i64 0) (.slice none 0 0) ∧ Sb wr w2.heap.size 24 (.int .i64 (Wa + Wb)) (.int .i64 Ha) v ∧ wr.ownsRow W3.heap.size 88 1 v (k * (Wa.toNat + Wb.toNat)) ((Rc.rowsOf F k).map (Value.int .u64)))
  case atStart => exact ⟨0, _, by omega, rfl, V3.out, Nat.le_refl _, A3.out, B3.out, Z3.out, O3.out, by rw [Nat.zero_mul, Rc.rowsOf_zero]; exact World.ownsRow_nil _ _ _ _⟩
  case round =>
    obtain ⟨k, v, hk, rfl, hB, hsz, hA1, hB1, hZ1, hO1, hrow⟩ := hrel
    cases gk with
    | zero =>
      obtain rfl : k = Ha.toNat := by omega
      have hx1 : ¬ ((Ha.toNat : Nat) : Int) < Ha := by omega
      obtain ⟨a0, a1, a2⟩ := hA1.cells
      have hlen : (Rc.rowsOf F Ha.toNat).length = Ha.toNat * (Wa.toNat + Wb.toNat) := Rc.rowsOf_length (fun j hj => by rw [← HF.out]; exact HFL.out j hj)
      obtain ⟨M, hM⟩ : ∃ M, Ha.toNat * (Wa.toNat + Wb.toNat) = M := ⟨_, rfl⟩
      rw [hM] at hrow hlen
      obtain ⟨ad, cp, rfl, ho, hle⟩ := ownK_row hlen hrow
      have hc9 := ownsRow_cap9 hrow
      obtain ⟨o0, o1, o2⟩ := hO1.cells
      obtain ⟨z0, z1, z2⟩ := hZ1.cells
      obtain ⟨y0, y1, y2⟩ := hZ1.fr
      have HO := Lib.hid ho; have HZ9 := Lib.hid hZ1; have HL9 := Lib.hid hlen; have HB9 := Lib.hid hB
      clear ho hZ1 hlen hrow hM hA1 hB1 hO1 hB
      go_wp2_with fail
      have R := HZ9.out.put (.int .i64 (Wa + Wb)) (.int .i64 Ha) (.slice ad M cp)
      refine bodyPost_ret (ret_cell2 Try.results16 _ _ _ _ rfl (load_m R)) rfl ?_
      rw [HL9.out]
      exact ⟨ad, cp, rfl, (ownK_set (ownK_set (ownK_set HO.out (a := ⟨w.heap.size + 1 + 1, 0, none⟩) (by simp; omega) _) (a := ⟨w.heap.size + 1 + 1, 1, none⟩) (by simp; omega) _) (a := ⟨w.heap.size + 1 + 1, 2, none⟩) (by simp; omega) _).mono (by omega), hle, hc9, ((HB9.out.setCell (p := ⟨w.heap.size + 1 + 1, 0, none⟩) (by simp; omega) _).setCell (p := ⟨w.heap.size + 1 + 1, 1, none⟩) (by simp; omega) _).setCell (p := ⟨w.heap.size + 1 + 1, 2, none⟩) (by simp; omega) _⟩
    | succ g =>
      have hlt : (k : Int) < Ha := by omega
      have hkH : k < Ha.toNat := by omega
      obtain ⟨N, hN⟩ : ∃ N, k * (Wa.toNat + Wb.toNat) = N := ⟨_, rfl⟩
      have hN2 : N + (Wa.toNat + Wb.toNat) = (k + 1) * (Wa.toNat + Wb.toNat) := by rw [← hN, Nat.succ_mul]
      have hN3 : N + (Wa.toNat + Wb.toNat) ≤ 16777216 := by rw [hN2]; exact Nat.le_trans (Nat.mul_le_mul_right _ hkH) hmax
      rw [hN] at hrow
      have HN2 := Lib.hid hN2
      clear hN hN2 hmax
      obtain ⟨a0, a1, a2⟩ := hA1.cells
      obtain ⟨o0, o1, o2⟩ := hO1.cells
      have HBR := Lib.hid hB; have HROW := Lib.hid hrow; have HOB := Lib.hid hO1; have HA1 := Lib.hid hA1; have HB1 := Lib.hid hB1; have HZ1 := Lib.hid hZ1
      clear hB hrow hO1 hA1 hB1 hZ1
      go_upto_region 12 with fail
      go_cut [10] from 45 to 64 (fun s10 wx => ∃ v2, s10 = .int .i64 k ∧ Below w.heap.size w wx ∧ W3.heap.size ≤ wx.heap.size ∧ Sb wx w.heap.size 24 (.int .i64 Wa) (.int .i64 Ha) (.slice (some ada) na ca) ∧ Sb wx (w.heap.size + 1) 24 (.int .i64 Wb) (.int .i64 Hb) (.slice (some adb) nb cb) ∧ Sb wx (w.heap.size + 1 + 1) 24 (.int .i64 0) (.int .i64 0) (.slice none 0 0) ∧ Sb wx w2.heap.size 24 (.int .i64 (Wa + Wb)) (.int .i64 Ha) v2 ∧ wx.ownsRow W3.heap.size 88 1 v2 (N + Wa.toNat) ((Rc.rowsOf F k ++ rowF La Wa k).map (Value.int .u64)))
      case first =>
        go_region_law (first
          | (refine step_append_lies _ rfl _ _ 22 rfl W3.heap.size 88 i0 (.int .u64 0) 1 8 Try.underlying22 hi hz0 hz1 hz2 rfl (by decide) v (N) _ rfl HR9.out ⟨ra, 0, none⟩ Wa.toNat rc ((rowF La Wa k).map (Value.int .u64)) rfl (by rw [List.length_map, HFA.out k (by have := HEQ.out; omega), Nat.mul_one]) hsr9 (ints_oneCell _ _) (by omega) (by unfold maxLen; omega) (by omega) hz9 _ rfl ?_; intro gg cc w5 hown' hgrow' _ _; obtain ⟨u1, u2, u3, u4, u5⟩ := pushL0 (W := w9) HM9.out HR9.out (by omega) hz9 hown' hgrow'; obtain ⟨k3, k4, k2⟩ := u1.cells; obtain ⟨k5, k6, k7⟩ := u1.fr)
          | (go_simp; go_at_call 61; refine (HRA.out k _ (by have := HEQ.out; omega) (by first | exact HBR.out | exact HBR.out.drew)).mono ?_; intro e w9 h9; obtain ⟨ra, rc, rfl, rs, rg, rlt, r9, rb⟩ := line_row h9 (HFA.out k (by have := HEQ.out; omega)) (by omega); have hB9 : Below wr.heap.size wr w9 := (by first | exact rb | exact Below.trans (b := wr.drew) ⟨rfl, rfl, rfl, Nat.le_refl _, fun _ _ => rfl⟩ rb); have HR9 := Lib.hid (ownsRow_later HROW.out hB9); have HM9 := Lib.hid (HOB.out.later hB9); obtain ⟨q0, q1, q2⟩ := HM9.out.cells; have hz9 : W3.heap.size ≤ w9.heap.size := Nat.le_trans hsz hB9.size; obtain ⟨ad9, had9, hsr9⟩ := slk_src rs (by omega); injection had9 with had9; subst had9; clear rs rb h9))
        all_goals
          have X0 := Lib.hid (u4 w2.heap.size (Nat.le_refl _))
          have X1 := Lib.hid ((bel_step HBR.out hB9).trans (u4 w.heap.size (by omega)))
          have XA := Lib.hid ((X0.out.block w.heap.size (by omega)).trans (HA1.out.later hB9))
          have XB := Lib.hid ((X0.out.block (w.heap.size + 1) (by omega)).trans (HB1.out.later hB9))
          have XZ := Lib.hid ((X0.out.block (w.heap.size + 1 + 1) (by omega)).trans (HZ1.out.later hB9))
          have X2 := Lib.hid u2; have X3 := Lib.hid u3; have X5 := Lib.hid u5
          clear u1 u2 u3 u4 u5 k2 k3 k4 k5 k6 k7 q0 q1 q2 hown' hgrow' hsr9
          go_wp2_with fail
          go_meet
          case rel => exact ⟨_, rfl, X1.out, X5.out, XA.out, XB.out, XZ.out, X2.out, by rw [List.map_append]; exact X3.out⟩
      case rest =>
        clear HBR HROW HOB HA1 HB1 HZ1 a0 a1 a2 o0 o1 o2 hsz
        obtain ⟨v, rfl, hB, hsz, hA1, hB1, hZ1, hO1, hrow⟩ := hcut
        obtain ⟨wr, hwr⟩ : ∃ wr : World, wr = wc := ⟨_, rfl⟩
        rw [← hwr] at hB hsz hA1 hB1 hZ1 hO1 hrow ⊢
        clear hwr
        obtain ⟨b0, b1, b2⟩ := hB1.cells
        obtain ⟨o0, o1, o2⟩ := hO1.cells
        have HBR := Lib.hid hB; have HROW := Lib.hid hrow; have HOB := Lib.hid hO1; have HA1 := Lib.hid hA1; have HB1 := Lib.hid hB1; have HZ1 := Lib.hid hZ1
        clear hB hrow hO1 hA1 hB1 hZ1
        go_wp2_with fail
        go_region_law (first
          | (refine step_append_lies _ rfl _ _ 22 rfl W3.heap.size 88 i0 (.int .u64 0) 1 8 Try.underlying22 hi hz0 hz1 hz2 rfl (by decide) v (N + Wa.toNat) _ rfl HR9.out ⟨ra, 0, none⟩ Wb.toNat rc ((rowF Lb Wb k).map (Value.int .u64)) rfl (by rw [List.length_map, HFB.out k (by have := HEQ.out; omega), Nat.mul_one]) hsr9 (ints_oneCell _ _) (by omega) (by unfold maxLen; omega) (by omega) hz9 _ rfl ?_; intro gg cc w5 hown' hgrow' _ _; obtain ⟨u1, u2, u3, u4, u5⟩ := pushL0 (W := w9) HM9.out HR9.out (by omega) hz9 hown' hgrow'; obtain ⟨k3, k4, k2⟩ := u1.cells; obtain ⟨k5, k6, k7⟩ := u1.fr)
          | (go_simp; go_at_call 61; refine (HRB.out k _ (by have := HEQ.out; omega) (by first | exact HBR.out | exact HBR.out.drew)).mono ?_; intro e w9 h9; obtain ⟨ra, rc, rfl, rs, rg, rlt, r9, rb⟩ := line_row h9 (HFB.out k (by have := HEQ.out; omega)) (by omega); have hB9 : Below wr.heap.size wr w9 := (by first | exact rb | exact Below.trans (b := wr.drew) ⟨rfl, rfl, rfl, Nat.le_refl _, fun _ _ => rfl⟩ rb); have HR9 := Lib.hid (ownsRow_later HROW.out hB9); have HM9 := Lib.hid (HOB.out.later hB9); obtain ⟨q0, q1, q2⟩ := HM9.out.cells; have hz9 : W3.heap.size ≤ w9.heap.size := Nat.le_trans hsz hB9.size; obtain ⟨ad9, had9, hsr9⟩ := slk_src rs (by omega); injection had9 with had9; subst had9; clear rs rb h9))
        all_goals
          have X0 := Lib.hid (u4 w2.heap.size (Nat.le_refl _))
          have X1 := Lib.hid ((bel_step HBR.out hB9).trans (u4 w.heap.size (by omega)))
          have XA := Lib.hid ((X0.out.block w.heap.size (by omega)).trans (HA1.out.later hB9))
          have XB := Lib.hid ((X0.out.block (w.heap.size + 1) (by omega)).trans (HB1.out.later hB9))
          have XZ := Lib.hid ((X0.out.block (w.heap.size + 1 + 1) (by omega)).trans (HZ1.out.later hB9))
          have X2 := Lib.hid u2; have X3 := Lib.hid u3; have X5 := Lib.hid u5
          clear u1 u2 u3 u4 u5 k2 k3 k4 k5 k6 k7 q0 q1 q2 hown' hgrow' hsr9
          go_wp2_with fail
          go_roundg g
          case measure => omega
          case rel => exact ⟨k + 1, _, by omega, by go_num, X1.out, X5.out, XA.out, XB.out, XZ.out, X2.out, by rw [← HN2.out, ← Nat.add_assoc, Rc.rowsOf_succ, ← HF.out k, ← List.append_assoc, List.map_append]; exact X3.out⟩
end Go.Proofs.Ytldhhhmihfcalaa

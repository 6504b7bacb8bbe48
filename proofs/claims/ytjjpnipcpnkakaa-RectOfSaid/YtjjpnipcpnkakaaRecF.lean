/- A part of a matrix, in memory of the call's own. Condition: numbers fit their kinds. -/
import Derived.Test.YtjjpnipcpnkakaaRecS
namespace Go.Proofs.Ytjjpnipcpnkakaa
open Go.RowKit
set_option linter.unusedVariables false

set_option maxRecDepth 100000 in
set_option maxHeartbeats 4000000 in
theorem sub_yes (W H x y p q : Int) (a : Option Addr) (c : Nat) (L : List Int) (hL : Rc.Ok W H L) (hc : L.length ≤ c) (hc2 : c ≤ 9223372036854775807) (hx : Rc.insV x p W = true) (hy : Rc.insV y q H = true) (w : World) (hs : SlK .u64 w a L.length L) :
    Calls Try.prog 69 #[.agg #[.int .i64 W, .int .i64 H, .slice a L.length c], .int .i64 x, .int .i64 y, .int .i64 p, .int .i64 q] w fun e w' => ∃ g, e = .returned (.tuple #[.agg #[.int .i64 p, .int .i64 q, .slice (some ⟨g, 0, none⟩) (q.toNat * p.toNat) (q.toNat * p.toNat)], .bool true]) ∧ OwnG w.heap.size w' g (Rc.subL L W x y p q) ∧ Below w.heap.size w w' := by
  have hn := ok_len hL
  have hSO := Rc.sub_ok hL hx hy
  have hH := hL.2.2.2.1
  obtain ⟨s1, s2, s3, s4, s5, s6⟩ := hSO
  obtain ⟨a1, a2, a3, a4⟩ := Rc.insV_iff.1 hx
  obtain ⟨b1, b2, b3, b4⟩ := Rc.insV_iff.1 hy
  obtain ⟨b, off, rfl, hcell⟩ := slk_pos hs (ok_pos hL)
  have hC := Lib.hid (fun W2 => covers_any W H (some ⟨b, off, none⟩) L.length c x y p q (Rc.ok_may hL) W2)
  obtain ⟨n, hnn⟩ : ∃ n, q.toNat * p.toNat = n := ⟨_, rfl⟩
  have e : p * q = (n : Int) := by rw [← hnn, Int.natCast_mul, Int.toNat_of_nonneg (by omega), Int.toNat_of_nonneg (by omega), Int.mul_comm]
  have e1 : wrap64 (p * q) = (n : Int) := by rw [e, IntWalk.wrap64_in] <;> omega
  rw [e] at s5
  have hn0 : n ≤ 16777216 := by omega
  have hmk := run_make_row' (P := Try.prog) 23 93 (.int .u64 0) 8 Try.underlying23 Try.info_px rfl .i64 .i64 n (by omega) (by omega)
  rw [made_noughts] at hmk
  obtain ⟨cs, hcs⟩ : ∃ cs, ((List.replicate n (0 : Int)).map (Value.int .u64)).toArray = cs := ⟨_, rfl⟩
  rw [hcs] at hmk
  have HCS := Lib.hid hcs
  have HN := Lib.hid hnn
  have HCELL := Lib.hid hcell
  have HOK := Lib.hid hL
  have HX := Lib.hid hx
  have HY := Lib.hid hy
  have hD : Sb ((w.alloc (.cells #[.int .i64 W, .int .i64 H, .slice (some ⟨b, off, none⟩) L.length c] 26)).alloc (.cells #[.int .i64 0, .int .i64 0, .slice none 0 0] 26)) w.heap.size 26 (.int .i64 W) (.int .i64 H) (.slice (some ⟨b, off, none⟩) L.length c) := (Sb.new _ _ _ _ _).alloc _
  have hE : Sb ((w.alloc (.cells #[.int .i64 W, .int .i64 H, .slice (some ⟨b, off, none⟩) L.length c] 26)).alloc (.cells #[.int .i64 0, .int .i64 0, .slice none 0 0] 26)) (w.heap.size + 1) 26 (.int .i64 0) (.int .i64 0) (.slice none 0 0) := by simpa using Sb.new (w.alloc (.cells #[.int .i64 W, .int .i64 H, .slice (some ⟨b, off, none⟩) L.length c] 26)) 26 (.int .i64 0) (.int .i64 0) (.slice none 0 0)
  have HD := Lib.hid hD
  have HE := Lib.hid hE
  have B := box2 w (.cells #[.int .i64 W, .int .i64 H, .slice (some ⟨b, off, none⟩) L.length c] 26) (.cells #[.int .i64 0, .int .i64 0, .slice none 0 0] 26)
  rw [hnn]
  have HSL := Lib.hid (show (Rc.subL L W x y p q).length = n by rw [s6, hnn])
  have HSUB := Lib.hid (show Rc.Ok p q (Rc.subL L W x y p q) from ⟨s1, s2, s3, s4, by rw [e]; exact s5, s6⟩)
  clear hcs hnn hcell hL hx hy hs hD hE e s5 s6
  go_enter Try.func69, Try.ntmps69
  go_wp2_with (go_at_call 74; refine (hC.out _).mono ?_; rw [HX.out, HY.out]; rintro e w1 ⟨rfl, hb⟩; replace B := bel_step B hb; have D := HD.out.later hb; have E := HE.out.later hb)
  have hz : w.heap.size ≤ w1.heap.size := B.size
  have hSt : OwnG w.heap.size ((w1.alloc (.cells cs 93)).alloc (.cells #[.int .i64 p, .int .i64 q, .slice (some ⟨w1.heap.size, 0, none⟩) n n] 26)) w1.heap.size (Rc.rowsOf (fun j => if j < 0 then Rc.cutL L W x (y + j) p else List.replicate p.toNat 0) q.toNat) := by
    refine ⟨hz, heapOld _ _ ?_⟩
    rw [show Rc.rowsOf (fun j => if j < 0 then Rc.cutL L W x (y + j) p else List.replicate p.toNat 0) q.toNat = List.replicate n 0 by rw [← HN.out]; exact Rc.rows_noughts _ _, HCS.out]
    exact heapNew _ _
  have HST := Lib.hid hSt
  have hBx : Below w1.heap.size w1 ((w1.alloc (.cells cs 93)).alloc (.cells #[.int .i64 p, .int .i64 q, .slice (some ⟨w1.heap.size, 0, none⟩) n n] 26)) := box2 _ _ _
  have HBX := Lib.hid hBx
  have HB := Lib.hid B
  have HD1 := Lib.hid D
  have HE1 := Lib.hid E
  have hz2 : w.heap.size + 2 ≤ w1.heap.size := by have := hb.size; simpa using this
  clear hSt hBx hb
  go_loopw [31] (fun i wr => ∃ k : Nat, k ≤ q.toNat ∧ i = .int .i64 k ∧ Below w.heap.size w wr ∧ Sb wr w.heap.size 26 (.int .i64 W) (.int .i64 H) (.slice (some ⟨b, off, none⟩) L.length c) ∧ Sb wr (w.heap.size + 1) 26 (.int .i64 0) (.int .i64 0) (.slice none 0 0) ∧ Sb wr (w1.heap.size + 1) 26 (.int .i64 p) (.int .i64 q) (.slice (some ⟨w1.heap.size, 0, none⟩) n n) ∧ OwnG w.heap.size wr w1.heap.size (Rc.rowsOf (fun j => if j < k then Rc.cutL L W x (y + j) p else List.replicate p.toNat 0) q.toNat)) (fun i _ => q.toNat - (intOf i).toNat)
  case atStart =>
    refine ⟨0, Nat.zero_le _, rfl, bel_step HB.out HBX.out, HD1.out.later HBX.out, HE1.out.later HBX.out, ?_, HST.out⟩
    simpa using Sb.new (w1.alloc (.cells cs 93)) 26 (.int .i64 p) (.int .i64 q) (.slice (some ⟨w1.heap.size, 0, none⟩) n n)
  case round =>
    clear B D E e1 hmk
    obtain ⟨k, hk, rfl, B, D, E, F, G⟩ := hrel
    by_cases hlt : k < q.toNat
    · have hq : (k : Int) < q := by omega
      have hyk := Rc.insV_row HY.out hlt
      obtain ⟨p1, p2, p3, p4⟩ := place HOK.out HX.out hyk
      obtain ⟨r1, r2, r3, r4⟩ := place (W := p) (H := q) (x := 0) (y := (k : Int)) (n := p) HSUB.out (by rw [Rc.insV_iff]; omega) (by rw [Rc.insV_iff]; omega)
      rw [HSL.out] at r4
      simp only [Int.toNat_natCast] at r2 r4
      have hCut := Lib.hid (fun W2 => cut_any W H x (y + k) p b off L.length c _ p.toNat (by omega) a1 (by omega) p1 (by omega) (by omega) p3 hc hc2 W2)
      have hRow := Lib.hid (fun W2 => row_any p q k w1.heap.size 0 n n _ p.toNat (by omega) (by omega) r2 (by omega) r4 (Nat.le_refl _) (by omega) W2)
      have hsrc := Lib.hid (cut_src HCELL.out (p := (y + k).toNat * W.toNat + x.toNat) (m := p.toNat) p3)
      have hlen := Lib.hid (show (((L.drop ((y + k).toNat * W.toNat + x.toNat)).take p.toNat).map (Value.int .u64)).length = p.toNat by rw [List.length_map, List.length_take, List.length_drop]; omega)
      have hcl : Hid (Rc.cutL L W x (y + k) p = (L.drop ((y + k).toNat * W.toNat + x.toNat)).take p.toNat) := rfl
      generalize (y + k).toNat * W.toNat + x.toNat = pc at hCut hsrc hlen hcl
      obtain ⟨cz, hcz⟩ : ∃ cz, (L.drop pc).take p.toNat = cz := ⟨_, rfl⟩
      rw [hcz] at hsrc hlen hcl
      have hyk2 : wrap64 (y + k) = y + k := by rw [IntWalk.wrap64_in] <;> omega
      have hyk3 : IntKind.i64.wrap (y + k) = y + k := by rw [IntWalk.i64_in] <;> omega
      rw [Nat.zero_add] at hRow
      obtain ⟨pr, hpr⟩ : ∃ pr, k * p.toNat = pr := ⟨_, rfl⟩
      rw [hpr] at hRow r4
      have HPR := Lib.hid hpr
      clear hcz hpr hyk p1 p2 p3 p4 r1 r2 r3
      obtain ⟨d0, d1, d2⟩ := D.cells
      obtain ⟨g0, g1, g2⟩ := F.cells
      go_wp2
      have HFIT := Lib.hid (show pr + p.toNat ≤ (Rc.rowsOf (fun j => if j < k then Rc.cutL L W x (y + j) p else List.replicate p.toNat 0) q.toNat).length by rw [Rc.rowsOf_length (W := p.toNat) (fun j hj => by split; exact Rc.cutL_length HOK.out.2.2.2.2.2 HX.out (Rc.insV_row HY.out hj); simp), HN.out]; exact r4)
      replace G := G.drew
      replace D := D.drew
      replace E := E.drew
      replace F := F.drew
      replace B := B.drew
      go_region_held3 (fun w' => w'.cell? ⟨w.heap.size, 0, none⟩ = some (.int .i64 W) ∧ w'.cell? ⟨w.heap.size, 1, none⟩ = some (.int .i64 H) ∧ w'.cell? ⟨w.heap.size, 2, none⟩ = some (.slice (some ⟨b, off, none⟩) L.length c) ∧ w'.cell? ⟨w1.heap.size + 1, 0, none⟩ = some (.int .i64 p) ∧ w'.cell? ⟨w1.heap.size + 1, 1, none⟩ = some (.int .i64 q) ∧ w'.cell? ⟨w1.heap.size + 1, 2, none⟩ = some (.slice (some ⟨w1.heap.size, 0, none⟩) n n))
        (first | exact ⟨d0, d1, d2, g0, g1, g2⟩ | exact ⟨D.cells.1, D.cells.2.1, D.cells.2.2, F.cells.1, F.cells.2.1, F.cells.2.2⟩ | exact ⟨(D.row (g := w1.heap.size) _ (by omega)).cells.1, (D.row (g := w1.heap.size) _ (by omega)).cells.2.1, (D.row (g := w1.heap.size) _ (by omega)).cells.2.2, (F.row (g := w1.heap.size) _ (by omega)).cells.1, (F.row (g := w1.heap.size) _ (by omega)).cells.2.1, (F.row (g := w1.heap.size) _ (by omega)).cells.2.2⟩)
        (first
          | (go_at_call 66; refine (hRow.out _).mono ?_; rintro e w9 ⟨rfl, hb9⟩; replace G := G.later hb9; replace D := D.later hb9; replace E := E.later hb9; replace F := F.later hb9; replace B := B.trans (hb9.mono B.size))
          | (go_at_call 94; refine (hCut.out _).mono ?_; rintro e w9 ⟨rfl, hb9⟩; replace G := G.later hb9; replace D := D.later hb9; replace E := E.later hb9; replace F := F.later hb9; replace B := B.trans (hb9.mono B.size))
          | (refine step_copy_row rfl (.tmp 36) (.tmp 43) 23 23 rfl 93 Try.underlying23 Try.size_px w1.heap.size pr p.toNat p.toNat ⟨b, off + pc, none⟩ p.toNat p.toNat (by simp [Act.eval]) (by simp [Act.eval]) _ _ G.2 (cz.map (Value.int .u64)) (by rw [hlen.out]; simp) (fun j v hv => cell_later B (hsrc.out j v hv)) ?_ (one_px _) ?_; (rw [hlen.out, List.length_map]; exact HFIT.out); intro v9; have GX := ownG_row G pr cz))
      go_wp2
      go_roundw
      case rel =>
        refine ⟨k + 1, by omega, by go_num, below_setRow B hz _, D.row _ (by omega), E.row _ (by omega), F.row _ (by omega), ?_⟩
        rw [← HPR.out, ← hcl.out, Rc.fill_row hlt (fun j hj => Rc.cutL_length HOK.out.2.2.2.2.2 HX.out (Rc.insV_row HY.out hj)) (fun j hj => by simp)] at GX
        rw [← hcl.out, ← HPR.out]
        exact GX
      case measure => simp [intOf]; omega
    · have hq : ¬ (k : Int) < q := by omega
      obtain rfl : k = q.toNat := by omega
      obtain ⟨e0, e1', e2⟩ := E.cells
      obtain ⟨f0, f1, f2⟩ := E.fr
      obtain ⟨g0, g1, g2⟩ := F.cells
      go_wp2
      have R := E.put (.int .i64 p) (.int .i64 q) (.slice (some ⟨w1.heap.size, 0, none⟩) n n)
      refine bodyPost_ret (ret_cell2 Try.results69 _ _ _ _ rfl (load_mt R)) rfl ?_
      refine ⟨w1.heap.size, rfl, ?_, by go_grown⟩
      have G' := ((G.set ⟨w.heap.size + 1, 0, none⟩ (.int .i64 p) (by simp; omega)).set ⟨w.heap.size + 1, 1, none⟩ (.int .i64 q) (by simp; omega)).set ⟨w.heap.size + 1, 2, none⟩ (.slice (some ⟨w1.heap.size, 0, none⟩) n n) (by simp; omega)
      rwa [Rc.rowsOf_congr (g := fun j => Rc.cutL L W x (y + j) p) (fun j hj => by simp [hj])] at G'
end Go.Proofs.Ytjjpnipcpnkakaa

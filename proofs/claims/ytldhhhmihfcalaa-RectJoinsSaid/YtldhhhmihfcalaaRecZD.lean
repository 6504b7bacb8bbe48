/- What two matrices in one come to. No condition. -/
import Derived.Test.YtldhhhmihfcalaaRecZA
namespace Go.Proofs.Ytldhhhmihfcalaa
open Go.RowKit
set_option linter.unusedVariables false

theorem row_all {p q : Int} {L : List Int} (h : Rc.Ok p q L) : Rc.rowsOf (rowF L p) q.toNat = L := (Rc.rows_cut h.2.2.2.2.2).symm
theorem two_above {W Ha Hb : Int} {La Lb : List Int} (ha : Rc.Ok W Ha La) (hb : Rc.Ok W Hb Lb) : twoL W (Ha + Hb) W Ha W Hb 0 Ha La Lb = La ++ Lb := by
  have hx : (Ha + Hb).toNat = Ha.toNat + Hb.toNat := by have := ha.2.2.1; have := hb.2.2.1; omega
  unfold twoL
  rw [hx, Rc.rowsOf_add]
  congr 1
  · rw [Rc.rowsOf_congr (g := rowF La W) (fun k hk => ?_)]
    · exact row_all ha
    · unfold putF
      rw [if_neg (by omega), if_pos (by omega), Nat.sub_zero]
      exact Rc.splice_whole (by rw [rowF_len ha k hk]; simp [noughtF])
  · rw [Rc.rowsOf_congr (g := rowF Lb W) (fun k hk => ?_)]
    · exact row_all hb
    · unfold putF
      rw [if_pos (by omega), if_neg (by omega), Nat.add_sub_cancel_left]
      exact Rc.splice_whole (by rw [rowF_len hb k hk]; simp [noughtF])
theorem two_rows {A B : List Int} {a b : Nat} (hA : A.length = a) (hB : B.length = b) : splice (splice (List.replicate (a + b) 0) 0 A) a B = A ++ B := by
  subst hA hB
  unfold splice
  simp [List.drop_append]
theorem two_beside {Wa Wb H : Int} {La Lb : List Int} (ha : Rc.Ok Wa H La) (hb : Rc.Ok Wb H Lb) : twoL (Wa + Wb) H Wa H Wb H Wa 0 La Lb = Rc.rowsOf (fun k => rowF La Wa k ++ rowF Lb Wb k) H.toNat := by
  have hx : (Wa + Wb).toNat = Wa.toNat + Wb.toNat := by have := ha.1; have := hb.1; omega
  unfold twoL
  refine Rc.rowsOf_congr fun k hk => ?_
  unfold putF
  rw [if_pos (by simp; omega), if_pos (by omega)]
  simp only [Int.toNat_zero, Nat.sub_zero]
  unfold noughtF
  rw [hx]
  exact two_rows (rowF_len ha k hk) (rowF_len hb k hk)
end Go.Proofs.Ytldhhhmihfcalaa

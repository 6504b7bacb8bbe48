/- A matrix of rows by the document, over any memory. Condition: rows are few and short. -/
import Derived.Test.YtldhhhmihfcalaaRecV
import Derived.Deep.AppendLies
import Derived.Deep.RegionLaw
namespace Go.Proofs.Ytldhhhmihfcalaa
open Go.RowKit
set_option linter.unusedVariables false

theorem row_line {W H y : Int} {L : List Int} (hL : Rc.Ok W H L) : rowV W H L y = lineK (Rc.insV y 1 H) (fun i : Nat => L.getD (y.toNat * W.toNat + i) 0) W.toNat := by
  obtain ⟨h1, h2, h3, h4, h5, h6⟩ := hL
  have hw : Rc.insV 0 W W = true := Rc.insV_iff.2 ⟨by omega, by omega, by omega, by omega⟩
  unfold rowV Rc.subV lineK
  rw [hw]
  cases hy : Rc.insV y 1 H
  · rfl
  · simp only [Bool.and_self, if_true]
    unfold Rc.subL
    rw [show (1 : Int).toNat = 0 + 1 from rfl, Rc.rowsOf_succ, Rc.rowsOf_zero, List.nil_append]
    obtain ⟨p1, p2, p3, p4⟩ := place ⟨h1, h2, h3, h4, h5, h6⟩ hw hy
    rw [show y + ((0 : Nat) : Int) = y by omega, cut_map p3]
    rfl
theorem col_line {W H x : Int} {L : List Int} (hL : Rc.Ok W H L) : colV W H L x = lineK (Rc.insV x 1 W) (fun j : Nat => L.getD (j * W.toNat + x.toNat) 0) H.toNat := by
  obtain ⟨h1, h2, h3, h4, h5, h6⟩ := hL
  have hh : Rc.insV 0 H H = true := Rc.insV_iff.2 ⟨by omega, by omega, by omega, by omega⟩
  unfold colV Rc.subV lineK
  rw [hh]
  cases hx : Rc.insV x 1 W
  · rfl
  · simp only [Bool.and_self, if_true]
    unfold Rc.subL
    rw [Rc.rowsOf_congr (g := fun k => [L.getD (k * W.toNat + x.toNat) 0]) (fun k hk => by
      have hk' : Rc.insV (k : Int) 1 H = true := Rc.insV_iff.2 ⟨by omega, by omega, by omega, by omega⟩
      obtain ⟨p1, p2, p3, p4⟩ := place ⟨h1, h2, h3, h4, h5, h6⟩ hx hk'
      rw [show (0 : Int) + (k : Int) = k by omega, cut_map p3]
      rfl)]
    exact flatMap_one _ _
end Go.Proofs.Ytldhhhmihfcalaa

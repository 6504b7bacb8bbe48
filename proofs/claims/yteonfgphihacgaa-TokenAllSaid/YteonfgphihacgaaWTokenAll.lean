/- TokenAll: all numbers of a text, how many bytes they took, and the error, are the document's: the walk of the law. No condition. -/
import Derived.Test.YteonfgphihacgaaTokG
import Derived.Test.YteonfgphihacgaaTokH
import Derived.Test.YteonfgphihacgaaSamI
namespace Go.Proofs.Yteonfgphihacgaa
open Go.RowKit
set_option linter.unusedVariables false

set_option maxRecDepth 100000 in
set_option maxHeartbeats 8000000 in
theorem tokenAll_walk (a0 : ByteArray) (a1 : Int) (w : World) (w0 : a0.size ≤ maxLen) (w1 : (Lit.int .i64 a1).wf = true) :
    Calls Try.prog 4 #[.string a0, .int .i64 a1] w fun e w' => e = .returned (.bool true) ∧ Below w.heap.size w w' := by
  have h1 := Lib.hid (wfI w1)
  have H0 := Lib.hid w0
  obtain ⟨m0, m1⟩ := Nu.limit_lt a1
  obtain ⟨m, hm⟩ : ∃ m, Nu.limit a1 = m := ⟨_, rfl⟩
  rw [hm] at m0 m1
  have HM := Lib.hid hm
  have M0 := Lib.hid m0
  have M1 := Lib.hid m1
  clear w0 w1 hm m0 m1
  go_enter Try.func4, Try.ntmps4
  go_wp2_with fail
  refine (few_any a0 60 (by omega) H0.out _).mono ?_
  rintro e w1 ⟨s, rfl, hs, rfl⟩
  have HS : Hid (s.size ≤ 1000) := Nat.le_trans hs (by omega)
  clear hs
  go_wp2_with fail
  refine (limit_any a1 h1.out _).mono ?_
  rw [HM.out]
  rintro e w1 ⟨rfl, rfl⟩
  go_wp2_with fail
  refine (all_any s m M0.out M1.out HS.out _).mono ?_
  rintro e w2 ⟨ad, cap, acc, u, er, rfl, hv, ho, hle, hln, hB⟩
  have HV := Lib.hid hv
  have HO := Lib.hid ho
  have HB := Lib.hid hB
  clear hv ho hle hB
  go_wp2_with fail
  refine (refAll_any s m M0.out M1.out HS.out _).mono ?_
  rintro e w3 ⟨ad2, cap2, acc2, u2, er2, rfl, hv2, ho2, hle2, hln2, hB2⟩
  rw [HV.out] at hv2
  injection hv2 with e1 e2
  injection e2 with e2 e3
  subst e1 e2 e3
  have HO3 := Lib.hid (HO.out.later hB2)
  have HO2 := Lib.hid ho2
  have HB3 := Lib.hid (HB.out.trans (hB2.mono HB.out.size))
  clear ho2 hle2 hB2
  have HL := Lib.hid (show acc.length ≤ 9223372036854775807 by omega)
  clear hln hln2
  go_wp2_with fail
  refine (Sm.same_self _ _ _ _ _ _ acc _ HL.out HO3.out.sl HO2.out.sl).mono ?_
  rintro e w4 ⟨rfl, hB⟩
  replace HB3 := Lib.hid (HB3.out.trans (hB.mono HB3.out.size))
  clear hB
  go_wp2_with fail
  refine (skip_any s HS.out _).mono ?_
  rintro e w5 ⟨rfl, hB⟩
  replace HB3 := Lib.hid (HB3.out.trans (hB.mono HB3.out.size))
  clear hB
  go_wp2_with fail
  refine (refSkip_any s HS.out _).mono ?_
  rintro e w6 ⟨rfl, hB⟩
  replace HB3 := Lib.hid (HB3.out.trans (hB.mono HB3.out.size))
  clear hB
  go_wp2_with fail
  refine (lives5_any _).mono ?_
  rintro e w7 ⟨rfl, hB⟩
  replace HB3 := Lib.hid (HB3.out.trans (hB.mono HB3.out.size))
  clear hB
  go_wp2
  go_ret
  exact ⟨rfl, HB3.out⟩
end Go.Proofs.Yteonfgphihacgaa

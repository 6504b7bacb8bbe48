/- What is left of a slice of integers from a place on; what Good makes is a pixel of its format. No condition. -/
import Derived.Test.YteonfgphihacgaaFitB
import Derived.Test.YteonfgphihacgaaQPixO
import Derived.Test.YteonfgphihacgaaRecP
import Derived.Test.YteonfgphihacgaaRecQ
namespace Go.Proofs.Yteonfgphihacgaa
open Go.RowKit
set_option linter.unusedVariables false

theorem fit_good {p c m : Int} (h : Pq.GoodP p c m) (hc : c = 1 ∨ c = 3) (m1 : 1 ≤ m) (m2 : m ≤ 65535) : Pq.Px.fitsV p c m = true := by
  have hf : Pq.Px.formatV c m = true := by
    unfold Pq.Px.formatV
    rcases hc with rfl | rfl <;> simp <;> omega
  rcases h with ⟨rfl, x, y, z, h3, a, b, d⟩ | ⟨rfl, x, h1, a⟩
  · rw [Pq.Px.fitsV3_all h3 a b d, hf]; rfl
  · rw [Pq.Px.fitsV1_all h1 a, hf]; rfl
/-- what is left of a slice of integers from its s-th one on -/
def cutA (a : Option Addr) (cap s : Nat) : Option Addr := if cap = s then a else a.map (·.add s)
theorem run_cut (a : Option Addr) (len cap s : Nat) (hs : s ≤ len) (W : World) :
    (Instr.slice 40 (.slice a len cap) (some (.int .i64 s)) none none).run Try.prog W = .ok (.slice (cutA a cap s) (len - s) (cap - s)) W := by
  rw [run_slice_l W 40 a len cap (by kernel_rfl) .i64 s (by omega) (by omega)]
  have hz : (sizeOf (Try.prog.elem 40)).run Try.prog W = .ok 1 W := by kernel_rfl
  rw [hz]
  simp [Result.andThen, sliced, cutA]
theorem cut_sl {w : World} {a : Option Addr} {len cap s : Nat} {zs : List Int} (h : SlK .i64 w a len zs) (hs : s ≤ len) (hc : len ≤ cap) : SlK .i64 w (cutA a cap s) (len - s) (zs.drop s) := by
  obtain ⟨h1, h2⟩ := h
  refine ⟨by rw [List.length_drop, h1], ?_⟩
  by_cases h0 : len - s = 0
  · exact .inl h0
  · rcases h2 with h2 | ⟨b, off, rfl, hcell⟩
    · omega
    · refine .inr ⟨b, off + s, ?_, fun i hi => ?_⟩
      · unfold cutA
        rw [if_neg (by omega)]
        simp [addrK_add]
      · rw [Nat.add_assoc, hcell (s + i) (by omega), List.getD_eq_getElem?_getD, List.getD_eq_getElem?_getD, List.getElem?_drop]
end Go.Proofs.Yteonfgphihacgaa

/- What Good of the document's own answer comes to, whatever numbers it is handed; and that it is a pixel of the format. Condition: the format may be; numbers fit their kinds. -/
import Derived.Test.YtldhhhmihfcalaaZQPixG
namespace Go.Proofs.Ytldhhhmihfcalaa
open Go.RowKit
set_option linter.unusedVariables false
namespace Pq
theorem good_sl (a : Option Addr) (len cap : Nat) (l : List Int) (c m : Int) (hl : len ≤ 9223372036854775807) (hI : ∀ z ∈ l, Px.I z) (hc : c = 1 ∨ c = 3) (m0 : 0 ≤ m) (m1 : m ≤ 65535) (w : World) (hs : Sl w a len l) :
    Calls Try.prog 85 #[.slice a len cap, .agg #[.int .i64 c, .int .i64 m]] w fun e w' => e = .returned (.int .u64 (Px.goodV l c m)) ∧ Below w.heap.size w w' := by
  obtain ⟨hz, hcell⟩ := hs
  match l, hz with
  | [], hz =>
    obtain rfl : len = 0 := by simpa using hz.symm
    rcases hc with rfl | rfl
    · exact good10 a cap m m0 m1 w
    · exact good30 a cap m m0 m1 w
  | x :: r, hz =>
    rcases hcell with hcell | ⟨b, o, rfl, hcell⟩
    · simp at hz; omega
    have hx := hI x (by simp)
    have c0 : w.cell? ⟨b, o, none⟩ = some (.int .i64 x) := by simpa using hcell 0 (by simp at hz; omega)
    rcases hc with rfl | rfl
    · exact good11 b o cap len x m (by simp at hz; omega) hl hx m0 m1 w c0
    · match r, hz with
      | [], hz =>
        obtain rfl : len = 1 := by simpa using hz.symm
        exact good31 b o cap x m hx m0 m1 w c0
      | y :: r, hz =>
        have hy := hI y (by simp)
        have c1 : w.cell? ⟨b, o + 1, none⟩ = some (.int .i64 y) := by simpa using hcell 1 (by simp at hz; omega)
        match r, hz with
        | [], hz =>
          obtain rfl : len = 2 := by simpa using hz.symm
          exact good32 b o cap x y m hx hy m0 m1 w c0 c1
        | z :: r, hz =>
          have hzz := hI z (by simp)
          have c2 : w.cell? ⟨b, o + 2, none⟩ = some (.int .i64 z) := by simpa using hcell 2 (by simp at hz; omega)
          exact good33 b o cap len x y z m (by simp at hz; omega) hl hx hy hzz m0 m1 w c0 c1 c2

/-- a pixel of a format that may be -/
def GoodP (p c m : Int) : Prop := (c = 3 ∧ ∃ x y z, Px.Is3 p x y z ∧ x ≤ m ∧ y ≤ m ∧ z ≤ m) ∨ (c = 1 ∧ ∃ x, Px.Is1 p x ∧ x ≤ m)
theorem goodL_in (m : Int) (m0 : 0 ≤ m) : ∀ (k : Nat) (zs : List Int), ∀ z ∈ Px.goodL zs m k, 0 ≤ z ∧ z ≤ m
  | 0, _, z, h => by cases h
  | k + 1, zs, z, h => by
    unfold Px.goodL at h
    rcases List.mem_cons.1 h with h | h
    · subst h
      cases zs with
      | nil => exact ⟨Int.le_refl _, m0⟩
      | cons x r => have := Px.around_lt x (m + 1) (by omega); simp only []; omega
    · exact goodL_in m m0 k zs.tail z h
theorem goodL_len (m : Int) : ∀ (k : Nat) (zs : List Int), (Px.goodL zs m k).length = k
  | 0, _ => rfl
  | k + 1, zs => by unfold Px.goodL; simp [goodL_len m k zs.tail]
theorem good_is (l : List Int) {c m : Int} (hc : c = 1 ∨ c = 3) (m0 : 0 ≤ m) (m1 : m ≤ 65535) : GoodP (Px.goodV l c m) c m := by
  have hin := goodL_in m m0 c.toNat l
  have hln := goodL_len m c.toNat l
  unfold Px.goodV
  generalize Px.goodL l m c.toNat = q at *
  rcases hc with rfl | rfl
  · match q, hln with
    | [x], _ =>
      have hx := hin x (by simp)
      rw [Px.packV1 (by omega) (by omega)]
      exact .inr ⟨rfl, x, ⟨rfl, by omega, by omega⟩, hx.2⟩
  · match q, hln with
    | [x, y, z], _ =>
      have hx := hin x (by simp)
      have hy := hin y (by simp)
      have hz := hin z (by simp)
      rw [Px.packV3 (by omega) (by omega) (by omega) (by omega) (by omega) (by omega)]
      exact .inl ⟨rfl, x, y, z, ⟨rfl, by omega, by omega, by omega, by omega, by omega, by omega⟩, hx.2, hy.2, hz.2⟩
theorem goodU {p c m : Int} (h : GoodP p c m) : Px.U p := by
  rcases h with ⟨_, x, y, z, h, _⟩ | ⟨_, x, h, _⟩
  · exact isU3 h
  · exact isU1 h
theorem formM_in (m : Int) : 1 ≤ Px.formM m ∧ Px.formM m ≤ 65535 := by
  have := Px.around_lt m 65535 (by omega)
  unfold Px.formM; omega
theorem formC_in (c : Int) : Px.formC c = 1 ∨ Px.formC c = 3 := by unfold Px.formC; split <;> simp
end Pq
end Go.Proofs.Ytldhhhmihfcalaa

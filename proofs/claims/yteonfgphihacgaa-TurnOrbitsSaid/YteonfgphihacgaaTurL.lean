/- What a law of layer 4 starts from: a matrix made of any, with naturals; what is handed over as it is. Condition: numbers fit their kinds. -/
import Derived.Test.YteonfgphihacgaaTurE
import Derived.Test.YteonfgphihacgaaTurJ
namespace Go.Proofs.Yteonfgphihacgaa
open Go.RowKit
set_option linter.unusedVariables false

theorem as4_any (W H : Int) (a : Option Addr) (n c : Nat) (w : World) :
    Calls Try.prog 57 #[.agg #[.int .i64 W, .int .i64 H, .slice a n c]] w fun e w' => e = .returned (.agg #[.int .i64 W, .int .i64 H, .slice a n c]) ∧ Below w.heap.size w w' := by
  go_enter Try.func57, Try.ntmps57
  go_wp2
  go_returns
  exact ⟨rfl, by go_grown⟩
theorem of4_any (W H : Int) (a : Option Addr) (n c : Nat) (w : World) :
    Calls Try.prog 55 #[.agg #[.int .i64 W, .int .i64 H, .slice a n c]] w fun e w' => e = .returned (.agg #[.int .i64 W, .int .i64 H, .slice a n c]) ∧ Below w.heap.size w w' := by
  go_enter Try.func55, Try.ntmps55
  go_wp2
  go_returns
  exact ⟨rfl, by go_grown⟩
/-- what is known of a matrix that Good makes -/
def Mk (most W H : Nat) (L : List Int) : Prop := 1 ≤ W ∧ W ≤ most ∧ 1 ≤ H ∧ H ≤ most ∧ L.length = W * H
theorem mk_of (W H most : Int) (hm : 0 < most) (hm8 : most ≤ 8) (zs : List Int) : ∃ (p q : Nat) (L : List Int), goodW W most = p ∧ goodW H most = q ∧ goodM W H most zs = L ∧ Mk most.toNat p q L := by
  obtain ⟨x0, x1⟩ := Ar.around_lt W most hm
  obtain ⟨y0, y1⟩ := Ar.around_lt H most hm
  refine ⟨(goodW W most).toNat, (goodW H most).toNat, _, ?_, ?_, rfl, ?_⟩
  · unfold goodW; omega
  · unfold goodW; omega
  · refine ⟨by unfold goodW; omega, by unfold goodW; omega, by unfold goodW; omega, by unfold goodW; omega, ?_⟩
    unfold goodM goodW
    rw [goodL_len, Nat.mul_comm]
theorem mk_ok {most W H : Nat} {L : List Int} (h : Mk most W H L) (hm : most ≤ 8) : Rc.Ok W H L := ok_of h.1 (by have := h.2.1; omega) h.2.2.1 (by have := h.2.2.2.1; omega) h.2.2.2.2
theorem mk_sized {most W H g : Nat} {L : List Int} (h : Mk most W H L) (hm : most ≤ 8) : Rc.sized (Tu.sw g W H : Nat) (Tu.sw g H W : Nat) = true := by
  obtain ⟨a1, a2, a3, a4, a5⟩ := h
  have h1 : W * H ≤ 8 * 8 := Nat.mul_le_mul (by omega) (by omega)
  have e : ((W * H : Nat) : Int) = (W : Int) * H := Int.natCast_mul ..
  have e2 : ((H * W : Nat) : Int) = (H : Int) * W := Int.natCast_mul ..
  have e3 := Nat.mul_comm W H
  rw [Rc.sized_iff]; unfold Tu.sw; split <;> omega
theorem mk_lay {most W H g : Nat} {L : List Int} (h : Mk most W H L) (hg : g < 8) : Mk most (Tu.sw g W H) (Tu.sw g H W) (Tu.layL g W H L) := by
  obtain ⟨a1, a2, a3, a4, a5⟩ := h
  refine ⟨?_, ?_, ?_, ?_, ?_⟩
  · unfold Tu.sw; split <;> omega
  · unfold Tu.sw; split <;> omega
  · unfold Tu.sw; split <;> omega
  · unfold Tu.sw; split <;> omega
  · rw [Tu.layL_len]; unfold Tu.sw; split
    · exact Nat.mul_comm ..
    · rfl
theorem mk_n {most W H : Nat} {L : List Int} (h : Mk most W H L) (hm : most ≤ 8) : W * H ≤ 64 := by
  obtain ⟨a1, a2, a3, a4, a5⟩ := h
  have h1 : W * H ≤ 8 * 8 := Nat.mul_le_mul (by omega) (by omega)
  exact h1
/-- a matrix that Good made, laid by the code -/
theorem layG {most W H g : Nat} {L : List Int} {n : Nat} (h : Mk most W H L) (hm : most ≤ 8) (hg : g < 8) (hn : W * H = n) (a : Option Addr) (c : Nat) (hc : n ≤ c) (hc2 : c ≤ 9223372036854775807) (w : World) (hs : SlK .u64 w a n L) :
    Calls Try.prog 82 #[.agg #[.int .i64 W, .int .i64 H, .slice a n c], .int .i64 g] w fun e w' => ∃ gb, e = .returned (.tuple #[.agg #[.int .i64 (Tu.sw g W H : Nat), .int .i64 (Tu.sw g H W : Nat), .slice (some ⟨gb, 0, none⟩) n n], .int .i64 0]) ∧ OwnG w.heap.size w' gb (Tu.layL g W H L) ∧ Below w.heap.size w w' := by
  have hl : L.length = n := h.2.2.2.2.trans hn
  have := turnLay_yes W H g a c L hg (mk_ok h hm) (by rw [hl]; exact hc) hc2 (mk_sized h hm) w (by rw [hl]; exact hs)
  rw [hl, hn] at this
  exact this
theorem good_n (most : Int) (W H : Int) (a : Option Addr) (n c : Nat) (zs : List Int) (hW : I64 W) (hH : I64 H) (hm : 0 < most) (hm8 : most ≤ 8) (hn : n ≤ 9223372036854775807) (w0 : World) (hz : ∀ x ∈ zs, 0 ≤ x ∧ x ≤ 18446744073709551615) (hs : SlK .u64 w0 a n zs) :
    ∃ (p q m : Nat) (L : List Int), Mk most.toNat p q L ∧ p * q = m ∧ (∀ x ∈ L, 0 ≤ x ∧ x ≤ 2) ∧ ∀ w, Below w0.heap.size w0 w →
    Calls Try.prog 33 #[.agg #[.int .i64 W, .int .i64 H, .slice a n c], .int .i64 most] w fun e w' =>
      ∃ ad cap, e = .returned (.agg #[.int .i64 p, .int .i64 q, .slice ad m cap]) ∧ OwnK .u64 w.heap.size w' ad L ∧ m ≤ cap ∧ cap ≤ 9223372036854775807 ∧ Below w.heap.size w w' := by
  obtain ⟨p, q, L, e1, e2, e3, hk⟩ := mk_of W H most hm hm8 zs
  refine ⟨p, q, _, L, hk, rfl, ?_, fun w hb => ?_⟩
  · intro x hx
    rw [← e3] at hx
    unfold goodM goodL at hx
    obtain ⟨i, _, rfl⟩ := List.mem_map.1 hx
    exact goodAt_lt hz i
  · have := good_any W H most a n c zs hW hH hm hm8 hn w (hs.below hb) hz
    rw [e1, e2, e3, hk.2.2.2.2] at this
    exact this
end Go.Proofs.Yteonfgphihacgaa

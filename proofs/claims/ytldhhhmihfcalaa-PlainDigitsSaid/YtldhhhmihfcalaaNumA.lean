/- How far a number is from 0, and what its digits' iterator hands out, over any memory. Condition: numbers fit their kinds. -/
import Derived.Test.YtldhhhmihfcalaaProg
import Derived.Test.YtldhhhmihfcalaaRng
import Derived.Test.YtldhhhmihfcalaaNumMath
import Derived.OwnWalkIn
import Derived.TacticsInMore
import Derived.LoopNIn
import Derived.LoopIn
import Derived.Handy
import Derived.Lib.Hide
namespace Go.Proofs.Ytldhhhmihfcalaa
open Go.RowKit Go.Shelf
attribute [local go_sem] Oper.semAt_some
set_option linter.unusedVariables false

theorem ret_i {k : IntKind} {a b : Int} (h : a = b) : Ending.returned (.int k a) = .returned (.int k b) := by rw [h]
theorem ret_b {a b : Bool} (h : a = b) : Ending.returned (.bool a) = .returned (.bool b) := by rw [h]

theorem size_any (n : Int) (hn : Nu.I n) (w : World) :
    Calls Try.prog 122 #[.int .i64 n] w fun e w' => e = .returned (.int .u64 n.natAbs) ∧ w = w' := by
  obtain ⟨h1, h2⟩ := hn
  by_cases h : n < 0
  · have X : Hid (IntKind.u64.wrap (-(IntKind.u64.wrap n)) = (n.natAbs : Int)) := by show _ = _; simp [IntKind.wrap, IntKind.bits, IntKind.signed]; omega
    go_enter Try.func122, Try.ntmps122
    go_wp2
    go_ret
    exact ⟨ret_i X.out, rfl⟩
  · have X : Hid (n = (n.natAbs : Int)) := by show _ = _; omega
    have h0 : 0 ≤ n := by omega
    go_enter Try.func122, Try.ntmps122
    go_wp2
    go_ret
    exact ⟨ret_i X.out, rfl⟩

theorem digits_any (n b : Int) (w : World) :
    Calls Try.prog 121 #[.int .u64 n, .int .u64 b] w fun e w' =>
      e = .returned (.func (.func 134) #[] #[.pointer (some ⟨w.heap.size, 0, none⟩), .pointer (some ⟨w.heap.size + 1, 0, none⟩)]) ∧
      w' = (w.alloc (.cells #[.int .u64 n] 87)).alloc (.cells #[.int .u64 b] 87) := by
  go_enter Try.func121, Try.ntmps121
  go_wp2
  go_ret
  exact ⟨rfl, rfl⟩

/-- The digits' iterator is made: two cells of its own. -/
def Made (n b : Int) (w : World) (e : Ending) (w' : World) : Prop :=
  ∃ nb bb, e = .returned (.func (.func 134) #[] #[.pointer (some ⟨nb, 0, none⟩), .pointer (some ⟨bb, 0, none⟩)]) ∧ nb ≠ bb ∧ w.heap.size ≤ nb ∧ w.heap.size ≤ bb ∧
    w'.cell? ⟨nb, 0, none⟩ = some (.int .u64 n) ∧ w'.cell? ⟨bb, 0, none⟩ = some (.int .u64 b) ∧ w'.frozen? ⟨nb, 0, none⟩ = false ∧ Below w.heap.size w w'
theorem digits_made (n b : Int) (w : World) : Calls Try.prog 121 #[.int .u64 n, .int .u64 b] w (Made n b w) := by
  refine (digits_any n b w).mono ?_
  rintro e w' ⟨rfl, rfl⟩
  exact ⟨_, _, rfl, by omega, by omega, by omega, by simp [go_sem], by simp [go_sem], by simp [go_sem], ((Below.refl _ _).alloc (Nat.le_refl _) _).alloc (by simp) _⟩

/-- the number that a cell holds -/
def cellNat (nb : Nat) (w : World) : Nat := match w.cell? ⟨nb, 0, none⟩ with | some (.int _ x) => x.toNat | _ => 0
theorem cellNat_of {nb : Nat} {w : World} {k : IntKind} {x : Int} (h : w.cell? ⟨nb, 0, none⟩ = some (.int k x)) : cellNat nb w = x.toNat := by unfold cellNat; rw [h]

set_option maxRecDepth 100000 in
set_option maxHeartbeats 2000000 in
theorem digits_gives (n b : Int) (h0 : 0 ≤ n) (h1 : n ≤ 18446744073709551615) (hb : 2 ≤ b) (hb1 : b ≤ 18446744073709551615) (nb bb : Nat) (hne : nb ≠ bb) (W0 : World) (m : Nat) (hm : 1 ≤ m)
    (cn : W0.cell? ⟨nb, 0, none⟩ = some (.int .u64 n)) (cb : W0.cell? ⟨bb, 0, none⟩ = some (.int .u64 b)) (fn : W0.frozen? ⟨nb, 0, none⟩ = false) :
    Gives Fence.wide m Try.prog 134 #[.pointer (some ⟨nb, 0, none⟩), .pointer (some ⟨bb, 0, none⟩)] (fun x : Int => #[.int .u64 x]) (fun k => k = nb ∨ k = bb) (Nu.dig b n) W0 := by
  intro l J Jx W hW hJ hJx hY h00
  have hln : nb < W0.heap.size := block_lt_of_cell cn
  have hlb : bb < W0.heap.size := block_lt_of_cell cb
  have cn1 := hW.cell (.inl rfl) cn
  have cb1 := hW.cell (.inr rfl) cb
  have fn1 : W.frozen? ⟨nb, 0, none⟩ = false := (hW.frozen (.inl rfl) hln).trans fn
  clear cn cb fn hln hlb hW
  have hbz : (b == 0) = false := by simp; omega
  refine callsIn_of_wp Try.func134 rfl trivial ?_ rfl
  simp only [Try.ntmps134, List.size_toArray, List.length_cons, List.length_nil, Nat.reduceAdd, Nat.reduceSub, Array.replicate_succ, Array.replicate_zero, List.push_toArray, List.append_toArray, List.nil_append, List.cons_append]
  gi_wp2
  gi_loopw [16] (fun _ wr => ∃ (pre : List Int) (q : Int), 0 ≤ q ∧ q ≤ 18446744073709551615 ∧ Nu.dig b n = pre ++ Nu.dig b q ∧ J pre wr ∧ wr.cell? ⟨nb, 0, none⟩ = some (.int .u64 q) ∧ wr.cell? ⟨bb, 0, none⟩ = some (.int .u64 b) ∧ wr.frozen? ⟨nb, 0, none⟩ = false) (fun _ wr => cellNat nb wr)
  case atStart => exact ⟨[], n, h0, h1, rfl, h00, cn1, cb1, fn1⟩
  case round =>
    obtain ⟨pre, q, q0, q1, hx, hj, c1, c2, f1⟩ := hrel
    clear cn1 cb1 fn1 h00
    have M := Lib.hid (cellNat_of c1)
    have hmod : q % b < b := Int.emod_lt_of_pos _ (by omega)
    have hmod0 : 0 ≤ q % b := Int.emod_nonneg _ (by omega)
    have hn1 : nb < wr.heap.size := block_lt_of_cell c1
    by_cases hle : b ≤ q
    · have hx2 : Nu.dig b n = pre ++ q % b :: Nu.dig b (q / b) := by rw [hx, Nu.dig_more hb hle]
      obtain ⟨fn, tmps, assign, body, hy, hR⟩ := hY pre (q % b) (Nu.dig b (q / b)) wr hx2 hj
      have HX := Lib.hid hx2
      have hq0 : 0 ≤ q / b := Int.ediv_nonneg (by omega) (by omega)
      have hq1 : q / b ≤ q := Int.ediv_le_self _ (by omega)
      have hq2 : q / b < q := Int.ediv_lt_self_of_pos_of_ne_one (by omega) (by omega)
      clear hx hx2 hY
      gi_wp2
      refine hR.mono ?_
      rintro e W3 ⟨hh, (⟨rfl, hJ3⟩ | ⟨rfl, hJx3⟩)⟩
      · have c13 := hh.cell (.inl rfl) c1
        have c23 := hh.cell (.inr rfl) c2
        have f13 : W3.frozen? ⟨nb, 0, none⟩ = false := (hh.frozen (.inl rfl) hn1).trans f1
        clear hR hy c1 c2 f1
        gi_wp2
        go_roundw
        case rel => exact ⟨pre ++ [q % b], q / b, hq0, by omega, by rw [HX.out]; simp, hJ _ _ _ hJ3 (.setCell _ (.inl rfl) _), World.cell?_setCell_same' _ _ _ (by rw [c13]; rfl), by rw [World.cell?_setCell_other _ _ _ _ (by first | (simp; done) | (simp; omega))]; exact c23, by rw [World.frozen?_setCell]; exact f13⟩
        case measure => rw [M.out, cellNat_of (World.cell?_setCell_same' _ _ _ (by rw [c13]; rfl))]; omega
      · gi_wp2
        go_end0
        exact ⟨⟨_, rfl⟩, .inr ⟨pre ++ [q % b], ⟨Nu.dig b (q / b), by rw [HX.out]; simp⟩, hJx3⟩⟩
    · have hx2 : Nu.dig b n = pre ++ q % b :: [] := by rw [hx, Nu.dig_last (by omega)]
      obtain ⟨fn, tmps, assign, body, hy, hR⟩ := hY pre (q % b) [] wr hx2 hj
      have HX := Lib.hid hx2
      clear hx hx2 hY
      gi_wp2
      refine hR.mono ?_
      rintro e W3 ⟨hh, (⟨rfl, hJ3⟩ | ⟨rfl, hJx3⟩)⟩
      · have c13 := hh.cell (.inl rfl) c1
        have c23 := hh.cell (.inr rfl) c2
        clear hR hy c1 c2 f1
        gi_wp2
        go_end0
        exact ⟨⟨_, rfl⟩, .inl (by rw [HX.out]; exact hJ3)⟩
      · gi_wp2
        go_end0
        exact ⟨⟨_, rfl⟩, .inr ⟨pre ++ [q % b], ⟨[], by rw [HX.out]; simp⟩, hJx3⟩⟩
end Go.Proofs.Ytldhhhmihfcalaa

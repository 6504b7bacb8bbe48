/- What runs in a list, over any memory, of bits. Condition: numbers fit their kinds. -/
import Derived.Test.YtjjpnipcpnkakaaBtM
namespace Go.Proofs.Ytjjpnipcpnkakaa
open Go.RowKit Go.Shelf
set_option linter.unusedVariables false
namespace Bt
theorem runs_none (a : Option Addr) (cap : Nat) (w : World) : Calls Try.prog 59 #[.slice a 0 cap] w fun e w' => e = .returned (.slice none 0 0) ∧ w = w' := by
  go_enter Try.func59, Try.ntmps59
  go_wp2
  go_ret
  exact ⟨rfl, rfl⟩
theorem snoc_get (R : List Int) (c : Int) (q : Nat) (h : R.length = q) : ((R ++ [c]).map (Value.int .i64))[q]? = some (.int .i64 c) := by subst h; simp
theorem snoc_set (R : List Int) (c d : Int) (q : Nat) (h : R.length = q) : ((R ++ [c]).map (Value.int .i64)).set q (.int .i64 d) = (R ++ [d]).map (Value.int .i64) := by subst h; simp
theorem snoc2 (R : List Int) (c : Int) (q : Nat) (h : R.length = q) : ((R ++ [c]).map (Value.int .i64) ++ [.int .i64 0])[q + 1]? = some (.int .i64 0) := by subst h; simp
theorem snoc_two (R : List Int) (c : Int) : (R ++ [c]).map (Value.int .i64) ++ [.int .i64 0] = ((R ++ [c]) ++ [0]).map (Value.int .i64) := by simp
set_option maxRecDepth 100000 in
set_option maxHeartbeats 4000000 in
theorem runs_some (b o n cap : Nat) (l : List Int) (w : World) (h1 : 1 ≤ n) (hn : n ≤ 100000) (hl : l.length = n) (hcell : ∀ i, i < n → w.cell? ⟨b, o + i, none⟩ = some (.int .i64 (l.getD i 0))) :
    Calls Try.prog 59 #[.slice (some ⟨b, o, none⟩) n cap] w (LsR (runsAux false 0 l) w) := by
  obtain ⟨i0, hi, hz0, hz1, hz2⟩ := info_parts Try.info_int
  have HL := Lib.hid hl
  have HS := Lib.hid hcell
  have hn0 : ((n : Int) == 0) = false := by simp; omega
  have hst := World.ownsRow_lit (base := w.heap.size) (e := 3) (size := 1) w #[.int .i64 0] 1 (Nat.le_refl _) (by unfold maxLen; omega) rfl
  have HST := Lib.hid hst
  have hbel : Below w.heap.size w (w.alloc (.cells #[.int .i64 0] 3)) := (Below.refl _ _).alloc (Nat.le_refl _) _
  have HBEL := Lib.hid hbel
  clear hl hcell hst hbel
  go_enter Try.func59, Try.ntmps59
  go_wp2
  go_loopg [3, 4, 14] n (fun g s3 s4 s14 wr => ∃ (k q gg cap' : Nat) (R : List Int) (c : Int) (bb : Bool), k + g = n ∧ s14 = .int .i64 k ∧ s4 = .bool bb ∧ R.length = q ∧ s3 = .slice (some ⟨gg, 0, none⟩) (q + 1) cap' ∧ wr.ownsRow w.heap.size 3 1 (.slice (some ⟨gg, 0, none⟩) (q + 1) cap') (q + 1) ((R ++ [c]).map (Value.int .i64)) ∧ Below w.heap.size w wr ∧
    Hid (runsAux false 0 l = R ++ runsAux bb c (l.drop k)) ∧ 0 ≤ c ∧ c ≤ k ∧ q ≤ k)
  case atStart => exact ⟨0, 0, w.heap.size, 1, [], 0, false, by omega, rfl, rfl, rfl, rfl, HST.out, HBEL.out, Lib.hid (by simp), by omega, by simp, by omega⟩
  case round =>
    obtain ⟨k, q, gg, cap', R, c, bb, hk, rfl, rfl, hRl, rfl, hrow, hB, hru, c0, ck, hqk⟩ := hrel
    have k0 : (0 : Int) ≤ k := Int.natCast_nonneg _
    have HRl := Lib.hid hRl; clear hRl
    cases gk with
    | zero =>
      obtain rfl : k = n := by omega
      have HR := Lib.hid hrow
      clear hrow
      go_wp2
      go_ret
      have e := hru.out
      rw [List.drop_of_length_le (by rw [HL.out]; omega), runsAux] at e
      have e2 : (R ++ [c]).length = q + 1 := by simp [HRl.out]
      rw [e]
      exact ⟨some ⟨gg, 0, none⟩, cap', by rw [e2]; rfl, by rw [e2]; exact HR.out, hB⟩
    | succ g =>
      have h1 : (k : Int) < n := by omega
      have hW := hB.size
      have hc := cell_later hB (HS.out k (by omega))
      have hdn := drop_next l k (by rw [HL.out]; omega)
      obtain ⟨x, hx⟩ : ∃ x, l.getD k 0 = x := ⟨_, rfl⟩
      rw [hx] at hc hdn
      have HD := Lib.hid hdn
      have HR := Lib.hid hrow
      have hq0 : (0 : Int) ≤ q := Int.natCast_nonneg _
      have hq1 : ((q + 1 : Nat) : Int) - 1 = q := by omega
      have hq2 : (q : Int) < (q + 1 : Nat) := by omega
      have hq3 : ((q + 1 + 1 : Nat) : Int) - 1 = (q + 1 : Nat) := by omega
      have hq4 : ((q + 1 : Nat) : Int) < (q + 1 + 1 : Nat) := by omega
      have hq5 : (0 : Int) ≤ (q + 1 : Nat) := by omega
      have hcq : wr.cell? ⟨gg, q, none⟩ = some (.int .i64 c) := (hrow.cellAt q (by omega)).trans (snoc_get R c q HRl.out)
      have hfq : wr.frozen? ⟨gg, q, none⟩ = false := hrow.frozenAt q
      clear hdn hx hrow
      by_cases hx0 : x = 0
      · have HXC := Lib.hid (show isOne x = false by simp [isOne, hx0])
        subst hx0
        cases bb
        · skip
          go_wp2
          go_roundg g
          case measure => omega
          case rel =>
            have hr2 := HR.out.stored q (.int .i64 (c + 1))
            rw [snoc_set R c (c + 1) q HRl.out] at hr2
            exact ⟨k + 1, q, gg, cap', R, c + 1, false, by omega, by go_num, rfl, HRl.out, rfl, hr2.1, hB.setCell (p := ⟨gg, q, none⟩) (ownsRow_blk HR.out).1 _, Lib.hid (by rw [hru.out, HD.out, runs_same (HXC.out)]), by omega, by omega, by omega⟩
        · skip
          go_wp2_with (at_builtin; refine wpList_append_own _ rfl _ _ 74 rfl w.heap.size 3 i0 (.int .i64 0) 1 8 Try.underlying74 hi hz0 hz1 hz2 rfl (by decide) _ (q + 1) _ rfl (HR.out.alloc _) ⟨wr.heap.size, 0, none⟩ 1 1 [.int .i64 0] rfl rfl (cell_one_new _ _ _) (by simp [Value.oneCell']) (by unfold maxLen; omega) (by omega) (by simp; omega) ?_; intro v' w4 hown' hgrow _; obtain ⟨g', cap2, rfl⟩ := ownsRow_succ hown'; have HO := Lib.hid hown'; have hB4 := ((hB.alloc hW _).grown hgrow (by simp; omega) (fun j ej => (HR.out.lt j ej).1)); have hc4 := (hown'.cellAt (q + 1) (by omega)).trans (snoc2 R c q HRl.out); have hf4 := hown'.frozenAt (q + 1); clear hown' hgrow)
          go_roundg g
          case measure => omega
          case rel =>
            have hr1 := HO.out
            rw [snoc_two] at hr1
            have hr2 := hr1.stored (q + 1) (.int .i64 1)
            rw [snoc_set (R ++ [c]) 0 1 (q + 1) (by simp [HRl.out])] at hr2
            exact ⟨k + 1, q + 1, g', cap2, R ++ [c], 1, false, by omega, by go_num, rfl, by simp [HRl.out], rfl, hr2.1, hB4.setCell (p := ⟨g', q + 1, none⟩) (ownsRow_blk HO.out).1 _, Lib.hid (by rw [hru.out, HD.out, runs_other (by rw [HXC.out]; decide)]; simp), by omega, by omega, by omega⟩
      · have HXC := Lib.hid (show isOne x = true by simp [isOne, hx0])
        have hxb : (x != 0) = true := by simpa using hx0
        clear hx0
        cases bb
        · skip
          go_wp2_with (at_builtin; refine wpList_append_own _ rfl _ _ 74 rfl w.heap.size 3 i0 (.int .i64 0) 1 8 Try.underlying74 hi hz0 hz1 hz2 rfl (by decide) _ (q + 1) _ rfl (HR.out.alloc _) ⟨wr.heap.size, 0, none⟩ 1 1 [.int .i64 0] rfl rfl (cell_one_new _ _ _) (by simp [Value.oneCell']) (by unfold maxLen; omega) (by omega) (by simp; omega) ?_; intro v' w4 hown' hgrow _; obtain ⟨g', cap2, rfl⟩ := ownsRow_succ hown'; have HO := Lib.hid hown'; have hB4 := ((hB.alloc hW _).grown hgrow (by simp; omega) (fun j ej => (HR.out.lt j ej).1)); have hc4 := (hown'.cellAt (q + 1) (by omega)).trans (snoc2 R c q HRl.out); have hf4 := hown'.frozenAt (q + 1); clear hown' hgrow)
          go_roundg g
          case measure => omega
          case rel =>
            have hr1 := HO.out
            rw [snoc_two] at hr1
            have hr2 := hr1.stored (q + 1) (.int .i64 1)
            rw [snoc_set (R ++ [c]) 0 1 (q + 1) (by simp [HRl.out])] at hr2
            exact ⟨k + 1, q + 1, g', cap2, R ++ [c], 1, true, by omega, by go_num, rfl, by simp [HRl.out], rfl, hr2.1, hB4.setCell (p := ⟨g', q + 1, none⟩) (ownsRow_blk HO.out).1 _, Lib.hid (by rw [hru.out, HD.out, runs_other (by rw [HXC.out]; decide)]; simp), by omega, by omega, by omega⟩
        · skip
          go_wp2
          go_roundg g
          case measure => omega
          case rel =>
            have hr2 := HR.out.stored q (.int .i64 (c + 1))
            rw [snoc_set R c (c + 1) q HRl.out] at hr2
            exact ⟨k + 1, q, gg, cap', R, c + 1, true, by omega, by go_num, rfl, HRl.out, rfl, hr2.1, hB.setCell (p := ⟨gg, q, none⟩) (ownsRow_blk HR.out).1 _, Lib.hid (by rw [hru.out, HD.out, runs_same (HXC.out)]), by omega, by omega, by omega⟩
theorem runs_any (a : Option Addr) (n cap : Nat) (l : List Int) (w : World) (hn : n ≤ 100000) (h : SlK .i64 w a n l) :
    Calls Try.prog 59 #[.slice a n cap] w (LsR (runsV l) w) := by
  by_cases h0 : n = 0
  · subst h0
    refine (runs_none a cap w).mono ?_
    rintro e w' ⟨rfl, rfl⟩
    unfold runsV
    rw [if_pos (List.eq_nil_of_length_eq_zero h.1)]
    exact ⟨none, 0, rfl, World.ownsRow_nil _ _ _ _, Below.refl _ _⟩
  · rcases h.2 with h1 | ⟨b, o, rfl, hs⟩
    · omega
    · unfold runsV
      rw [if_neg (fun e => by have := h.1; rw [e] at this; exact h0 this.symm)]
      exact runs_some b o n cap l w (by omega) hn h.1 hs
end Bt
end Go.Proofs.Ytjjpnipcpnkakaa

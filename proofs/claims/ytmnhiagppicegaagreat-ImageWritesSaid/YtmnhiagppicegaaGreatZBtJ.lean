/- Whether all numbers are 0 or 1; a list in parts of eight, handed out one by one: over any memory. Condition: numbers fit their kinds. -/
import Derived.Test.YtmnhiagppicegaaGreatZgAC
import Derived.RegionIn
namespace Go.Proofs.YtmnhiagppicegaaGreat
open Go.RowKit Go.Shelf
attribute [local go_sem] Oper.semAt_some
set_option linter.unusedVariables false
namespace Bt
def oddB (x : Int) : Bool := decide (x ≠ 0) && decide (x ≠ 1)
theorem odd_any (x : Int) (w : World) : Calls Tryz.prog 187 #[.int .i64 x] w fun e w' => e = .returned (.bool (oddB x)) ∧ w = w' := by
  by_cases h0 : x = 0
  · subst h0
    go_enter Tryz.func187, Tryz.ntmps187
    go_wp2
    go_ret
    exact ⟨rfl, rfl⟩
  · by_cases h1 : x = 1
    · subst h1
      go_enter Tryz.func187, Tryz.ntmps187
      go_wp2
      go_ret
      exact ⟨rfl, rfl⟩
    · have k0 : (x != 0) = true := by simpa using h0
      have k1 : (x != 1) = true := by simpa using h1
      have X := Lib.hid (show true = oddB x by simp [oddB, h0, h1])
      rw [← X.out]
      go_enter Tryz.func187, Tryz.ntmps187
      go_wp2
      go_ret
      exact ⟨rfl, rfl⟩
theorem odd_iff (x : Int) : oddB x = false ↔ (x = 0 ∨ x = 1) := by unfold oddB; simp; omega
def IdxR (ok : Bool) (w : World) (e : Ending) (w' : World) : Prop := ∃ r : Int, e = .returned (.int .i64 r) ∧ (0 ≤ r ↔ ok = false) ∧ -1 ≤ r ∧ w = w'
set_option maxRecDepth 100000 in
set_option maxHeartbeats 2000000 in
theorem index_any (a : Option Addr) (n cap : Nat) (l : List Int) (w : World) (hn : n ≤ 9223372036854775807) (h : SlK .i64 w a n l) :
    Calls Tryz.prog 200 #[.slice a n cap, .func (.func 187) #[] #[]] w (IdxR (decide (Ones l)) w) := by
  obtain ⟨hl, hs⟩ := h
  have HL := Lib.hid hl; clear hl
  have HS := Lib.hid hs; clear hs
  go_enter Tryz.func200, Tryz.ntmps200
  go_wp2
  go_loopg [8] n (fun g s8 wr => ∃ k : Nat, k + g = n ∧ s8 = .int .i64 k ∧ Hid (Ones (l.take k)) ∧ wr = w)
  case atStart => exact ⟨0, by omega, rfl, Lib.hid (by intro x hx; simp at hx), rfl⟩
  case round =>
    obtain ⟨k, hk, rfl, ho, rfl⟩ := hrel
    cases gk with
    | zero =>
      obtain rfl : k = n := by omega
      have X := Lib.hid (show decide (Ones l) = true by rw [decide_eq_true_iff]; have := ho.out; rwa [List.take_of_length_le (by rw [HL.out]; omega)] at this)
      clear ho
      go_wp2
      go_ret
      exact ⟨-1, rfl, by rw [X.out]; simp, by omega, rfl⟩
    | succ g =>
      have hlt : (k : Int) < n := by omega
      have k0 : (0 : Int) ≤ k := Int.natCast_nonneg _
      rcases HS.out with h0 | ⟨b, o, rfl, hc⟩
      · omega
      have hc := hc k (by omega)
      obtain ⟨x, hx⟩ : ∃ x, l.getD k 0 = x := ⟨_, rfl⟩
      rw [hx] at hc
      have HX := Lib.hid hx; clear hx
      cases hq : oddB x
      · have HQ := Lib.hid hq; clear hq
        go_wp2_with (go_at_call 187; refine (odd_any _ _).mono ?_; rw [HQ.out]; rintro e w1 ⟨rfl, rfl⟩)
        go_roundg g
        case measure => omega
        case rel =>
          refine ⟨k + 1, by omega, by go_num, Lib.hid ?_, rfl⟩
          rw [← take_next l k (by rw [HL.out]; omega), HX.out]
          intro y hy
          rcases List.mem_append.1 hy with hy | hy
          · exact ho.out y hy
          · obtain rfl : y = x := by simpa using hy
            exact (odd_iff y).1 HQ.out
      · have HQ := Lib.hid hq; clear hq
        have X := Lib.hid (show decide (Ones l) = false by
          rw [decide_eq_false_iff_not]; intro e
          have := (odd_iff x).2 (e x (by rw [← HX.out, List.getD_eq_getElem?_getD, List.getElem?_eq_getElem (by rw [HL.out]; omega)]; exact List.getElem_mem _))
          rw [HQ.out] at this; cases this)
        go_wp2_with (go_at_call 187; refine (odd_any _ _).mono ?_; rw [HQ.out]; rintro e w1 ⟨rfl, rfl⟩)
        go_ret
        exact ⟨k, rfl, by rw [X.out]; simp, by omega, rfl⟩
theorem contains_any (a : Option Addr) (n cap : Nat) (l : List Int) (w : World) (hn : n ≤ 9223372036854775807) (h : SlK .i64 w a n l) :
    Calls Tryz.prog 189 #[.slice a n cap, .func (.func 187) #[] #[]] w fun e w' => e = .returned (.bool (!decide (Ones l))) ∧ w = w' := by
  have H := Lib.hid (index_any a n cap l w hn h)
  clear h
  cases ho : decide (Ones l)
  · rw [ho] at H
    go_enter Tryz.func189, Tryz.ntmps189
    go_wp2_with (go_at_call 200; refine H.out.mono ?_; rintro e w1 ⟨r, rfl, hr, h1, rfl⟩; replace hr := hr.2 rfl)
    go_ret
    exact ⟨rfl, rfl⟩
  · rw [ho] at H
    go_enter Tryz.func189, Tryz.ntmps189
    go_wp2_with (go_at_call 200; refine H.out.mono ?_; rintro e w1 ⟨r, rfl, hr, h1, rfl⟩; obtain rfl : r = -1 := (by by_cases h : 0 ≤ r; (have := hr.1 h; cases this); omega); clear hr)
    go_ret
    exact ⟨rfl, rfl⟩
def MadeC (v : Value) (w : World) (e : Ending) (w' : World) : Prop :=
  ∃ nb bb, e = .returned (.func (.func 201) #[] #[.pointer (some ⟨nb, 0, none⟩), .pointer (some ⟨bb, 0, none⟩)]) ∧ nb ≠ bb ∧ w.heap.size ≤ nb ∧ w.heap.size ≤ bb ∧
    w'.cell? ⟨nb, 0, none⟩ = some v ∧ w'.cell? ⟨bb, 0, none⟩ = some (.int .i64 8) ∧ Below w.heap.size w w'
theorem chunk_made (a : Option Addr) (len cap : Nat) (w : World) : Calls Tryz.prog 190 #[.slice a len cap, .int .i64 8] w (MadeC (.slice a len cap) w) := by
  go_enter Tryz.func190, Tryz.ntmps190
  go_wp2
  go_ret
  exact ⟨_, _, rfl, by omega, by omega, by omega, by simp [go_sem], by simp [go_sem], by go_grown⟩
/-- a part: the k-th eight of n numbers -/
def partLen (n k : Nat) : Nat := min 8 (n - 8 * k)
def encC (b o n : Nat) (k : Nat) : Array Value := #[.slice (some ⟨b, o + 8 * k, none⟩) (partLen n k) (partLen n k)]
theorem rng_get (m k : Nat) (h : k < m) : List.range m = (List.range m).take k ++ k :: (List.range m).drop (k + 1) := by
  conv => lhs; rw [← List.take_append_drop k (List.range m), List.drop_eq_getElem_cons (by simpa using h)]
  simp
theorem rng_next (m k : Nat) (h : k < m) : (List.range m).take k ++ [k] = (List.range m).take (k + 1) := by
  rw [List.take_succ_eq_append_getElem (by simpa using h)]; simp
set_option maxRecDepth 100000 in
set_option maxHeartbeats 2000000 in
theorem chunk_gives (n m cap b o nb bb : Nat) (hn : 1 ≤ n) (hm1 : n ≤ 8 * m) (hm2 : 8 * m < n + 8) (hnc : n ≤ cap) (hc : cap ≤ 9223372036854775807) (h9 : n ≤ 4096) (hne : nb ≠ bb) (W0 : World) (q : Nat) (hq : 1 ≤ q)
    (cn : W0.cell? ⟨nb, 0, none⟩ = some (.slice (some ⟨b, o, none⟩) n cap)) (cb : W0.cell? ⟨bb, 0, none⟩ = some (.int .i64 8)) :
    Gives Fence.wide q Tryz.prog 201 #[.pointer (some ⟨nb, 0, none⟩), .pointer (some ⟨bb, 0, none⟩)] (encC b o n) (fun k => k = nb ∨ k = bb) (List.range m) W0 := by
  intro l J Jx W hW hJ hJx hY h00
  have cn1 := hW.cell (.inl rfl) cn
  have cb1 := hW.cell (.inr rfl) cb
  clear cn cb hW
  have HY := Lib.hid hY; clear hY
  refine callsIn_of_wp Tryz.func201 rfl trivial ?_ rfl
  simp only [Tryz.ntmps201, List.size_toArray, List.length_cons, List.length_nil, Nat.reduceAdd, Nat.reduceSub, Array.replicate_succ, Array.replicate_zero, List.push_toArray, List.append_toArray, List.nil_append, List.cons_append]
  gi_wp2
  gi_loopw [4] (fun i wr => ∃ k : Nat, k ≤ m ∧ i = .int .i64 (8 * (k : Int)) ∧ J ((List.range m).take k) wr ∧ wr.cell? ⟨nb, 0, none⟩ = some (.slice (some ⟨b, o, none⟩) n cap) ∧ wr.cell? ⟨bb, 0, none⟩ = some (.int .i64 8)) (fun i _ => (8 * (m : Int) - intOf i).toNat)
  case atStart => exact ⟨0, Nat.zero_le _, rfl, by simpa using h00, cn1, cb1⟩
  case round =>
    obtain ⟨k, hk, rfl, hj, c1, c2⟩ := hrel
    clear cn1 cb1 h00
    by_cases hlt : k < m
    · have hi0 : 8 * (k : Int) < n := by omega
      have hi1 : (0 : Int) ≤ k := Int.natCast_nonneg _
      have hi2 : (k : Int) ≤ 512 := by omega
      obtain ⟨I, hI⟩ : ∃ I : Nat, 8 * k = I := ⟨_, rfl⟩
      have hI2 : 8 * (k : Int) = (I : Int) := by omega
      rw [hI2] at hi0 ⊢
      have hic : ¬ cap = I := by omega
      have hi3 : (0 : Int) ≤ I := Int.natCast_nonneg _
      have HI := Lib.hid hI; have HI2 := Lib.hid hI2
      by_cases h8 : I + 8 ≤ n
      · skip
        have hpl : partLen n k = 8 := by unfold partLen; omega
        have hy0 := HY.out _ _ _ wr.drew (rng_get m k hlt) (hJ _ _ _ hj (.drew _ _))
        have HNX := Lib.hid (rng_next m k hlt)
        rw [show encC b o n k = #[.slice (some ⟨b, o + I, none⟩) 8 8] by unfold encC; rw [hpl, hI]] at hy0
        obtain ⟨fn, tmps, assign, body, hy, hR⟩ := hy0
        have d1 : wr.drew.cell? ⟨nb, 0, none⟩ = some (.slice (some ⟨b, o, none⟩) n cap) := c1
        have d2 : wr.drew.cell? ⟨bb, 0, none⟩ = some (.int .i64 8) := c2
        clear hpl hI hI2
        have hmn : min (8 : Int) ((n - I : Nat) : Int) = 8 := by omega
        gi_wp2
        gi_region
        gi_wp2
        refine hR.mono ?_
        rintro e W3 ⟨hh, (⟨rfl, hJ3⟩ | ⟨rfl, hJx3⟩)⟩
        · have c13 := hh.cell (.inl rfl) d1
          have c23 := hh.cell (.inr rfl) d2
          clear hR hy c1 c2 d1 d2
          gi_wp2
          go_roundw
          case rel => exact ⟨k + 1, by omega, by have := HI2.out; go_num, by rw [← HNX.out]; exact hJ3, c13, c23⟩
          case measure => have := HI2.out; simp [intOf]; omega
        · gi_wp2
          refine bodyPost_ret (results_none rfl _ _ _) rfl ?_
          exact ⟨⟨_, rfl⟩, .inr ⟨_, by rw [HNX.out]; exact List.take_prefix _ _, hJx3⟩⟩
      · obtain ⟨p, hp⟩ : ∃ p, n - I = p := ⟨_, rfl⟩
        have p1 : 1 ≤ p := by omega
        have p8 : p < 8 := by omega
        have hpl : partLen n k = p := by unfold partLen; omega
        have hy0 := HY.out _ _ _ wr.drew (rng_get m k hlt) (hJ _ _ _ hj (.drew _ _))
        have HNX := Lib.hid (rng_next m k hlt)
        rw [show encC b o n k = #[.slice (some ⟨b, o + I, none⟩) p p] by unfold encC; rw [hpl, hI]] at hy0
        obtain ⟨fn, tmps, assign, body, hy, hR⟩ := hy0
        have d1 : wr.drew.cell? ⟨nb, 0, none⟩ = some (.slice (some ⟨b, o, none⟩) n cap) := c1
        have d2 : wr.drew.cell? ⟨bb, 0, none⟩ = some (.int .i64 8) := c2
        clear hpl hI hI2
        have hmn : min (8 : Int) ((n - I : Nat) : Int) = (p : Int) := by omega
        have hmn2 : min (8 : Int) (p : Int) = (p : Int) := by omega
        gi_wp2
        gi_region
        gi_wp2
        refine hR.mono ?_
        rintro e W3 ⟨hh, (⟨rfl, hJ3⟩ | ⟨rfl, hJx3⟩)⟩
        · have c13 := hh.cell (.inl rfl) d1
          have c23 := hh.cell (.inr rfl) d2
          clear hR hy c1 c2 d1 d2
          gi_wp2
          go_roundw
          case rel => exact ⟨k + 1, by omega, by have := HI2.out; go_num, by rw [← HNX.out]; exact hJ3, c13, c23⟩
          case measure => have := HI2.out; simp [intOf]; omega
        · gi_wp2
          refine bodyPost_ret (results_none rfl _ _ _) rfl ?_
          exact ⟨⟨_, rfl⟩, .inr ⟨_, by rw [HNX.out]; exact List.take_prefix _ _, hJx3⟩⟩
    · obtain rfl : k = m := by omega
      have hi0 : ¬ 8 * (k : Int) < n := by omega
      gi_wp2
      go_end0
      exact ⟨⟨_, rfl⟩, .inl (by rw [List.take_of_length_le (by simp)] at hj; exact hj)⟩
end Bt
end Go.Proofs.YtmnhiagppicegaaGreat

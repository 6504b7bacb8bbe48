/- The head that a text begins with, by the document: the greatest numbers, and texts that are wrong, or end, ahead of a number, over any memory. Condition: the text is short. -/
import Derived.Test.YtkjkepnailamnaaGreatZgAB
import Derived.Test.YtkjkepnailamnaaGreatZgAD
namespace Go.Proofs.YtkjkepnailamnaaGreat
open Go.RowKit
set_option linter.unusedVariables false
set_option maxHeartbeats 2000000 in
theorem refLimits_any (a b c : Int) (w : World) :
    Calls Tryz.prog 101 #[.agg #[.int .i64 a, .int .i64 b, .int .i64 c]] w fun e w' => ∃ g, e = .returned (.slice (some ⟨g, 0, none⟩) 3 3) ∧ w.heap.size ≤ g ∧ w'.cell? ⟨g, 0, none⟩ = some (.int .i64 (Hd.limits a b c).m0) ∧ w'.cell? ⟨g, 1, none⟩ = some (.int .i64 (Hd.limits a b c).m1) ∧ w'.cell? ⟨g, 2, none⟩ = some (.int .i64 (Hd.limits a b c).m2) ∧ g < w'.heap.size ∧ Below w.heap.size w w' := by
  have hL : ∀ n hi : Int, (n < 1 ∧ Hd.lim n hi = 1) ∨ (¬ n < 1 ∧ hi < n ∧ Hd.lim n hi = hi) ∨ (¬ n < 1 ∧ ¬ hi < n ∧ Hd.lim n hi = n) := fun n hi => by
    unfold Hd.lim
    by_cases h1 : n < 1
    · exact .inl ⟨h1, if_pos h1⟩
    · by_cases h2 : hi < n
      · exact .inr (.inl ⟨h1, h2, by rw [if_neg h1, if_pos h2]⟩)
      · exact .inr (.inr ⟨h1, h2, by rw [if_neg h1, if_neg h2]⟩)
  unfold Hd.limits
  simp only []
  rcases hL a 4096 with ⟨a1, ha⟩ | ⟨a1, a2, ha⟩ | ⟨a1, a2, ha⟩ <;> rcases hL b 65536 with ⟨b1, hb⟩ | ⟨b1, b2, hb⟩ | ⟨b1, b2, hb⟩ <;> rcases hL c 65535 with ⟨c1, hc⟩ | ⟨c1, c2, hc⟩ | ⟨c1, c2, hc⟩
  all_goals
    rw [ha, hb, hc]
    clear ha hb hc hL
    go_enter Tryz.func101, Tryz.ntmps101
    go_wp2
    go_ret
    exact ⟨_, rfl, by simp, (by first | (simp [go_sem]; done) | (simp [go_sem]; omega)), (by first | (simp [go_sem]; done) | (simp [go_sem]; omega)), (by first | (simp [go_sem]; done) | (simp [go_sem]; omega)), by simp, by go_grown⟩
def RParR (s : ByteArray) (l : Hd.L) (w : World) (e : Ending) (w' : World) : Prop :=
  e = .returned (.tuple #[agH (Hd.parseV l (bytesOf s)).1, .int .i64 (Hd.parseV l (bytesOf s)).2.1, .int .i64 (Hd.parseV l (bytesOf s)).2.2]) ∧ Below w.heap.size w w'
theorem rpar_fin {s : ByteArray} {l : Hd.L} {w w' : World} {h : Hd.H} {u er n : Int} {val : Value} (hv : Hd.parseV l (bytesOf s) = (h, u, er)) (hn : n = u) (hval : val = agH h) (hB : Below w.heap.size w w') :
    RParR s l w (.returned (.tuple #[val, .int .i64 n, .int .i64 er])) w' := by
  unfold RParR
  rw [hv, hn, hval]
  exact ⟨rfl, hB⟩
namespace Hd
theorem put_first {l : L} {c : Int} (h : ¬ c = 80) : put l new c = S.wrong new 2 := by unfold put; rw [if_pos (show new.p = 0 from rfl), if_neg h]
theorem pv_first {l : L} {c : Int} (h : ¬ c = 80) (cs : List Int) : parseV l (c :: cs) = (none, 1, 2) := by
  unfold parseV
  rw [parse_cons _ _ _ (by decide), put_first h, parse_wrong _ _ rfl]; rfl
theorem put80 (l : L) : put l new 80 = ⟨1, 0, 0, 0, 0, 1, Tk.new, 0⟩ := rfl
theorem pv_one {l : L} : parseV l [80] = (none, 1, 6) := by
  unfold parseV
  rw [parse_cons _ _ _ (by decide), put80, parse_nil _ (by decide)]; rfl
theorem pv_second {l : L} {c : Int} (h : ¬ (49 ≤ c ∧ c ≤ 54)) (cs : List Int) : parseV l (80 :: c :: cs) = (none, 2, 2) := by
  unfold parseV
  have hp : put l ⟨1, 0, 0, 0, 0, 1, Tk.new, 0⟩ c = S.wrong ⟨1, 0, 0, 0, 0, 1, Tk.new, 0⟩ 2 := by unfold put; rw [if_neg (by decide), if_pos rfl, if_neg h]
  rw [parse_cons _ _ _ (by decide), put80, parse_cons _ _ _ (by decide), hp, parse_wrong _ _ rfl]; rfl
theorem put_kind {l : L} {c : Int} (h : 49 ≤ c ∧ c ≤ 54) : put l ⟨1, 0, 0, 0, 0, 1, Tk.new, 0⟩ c = s2 (c - 48) := by unfold put; rw [if_neg (by decide), if_pos rfl, if_pos h]; rfl
theorem pv_two {l : L} {c : Int} (h : 49 ≤ c ∧ c ≤ 54) : parseV l [80, c] = (none, 2, 6) := by
  unfold parseV
  rw [parse_cons _ _ _ (by decide), put80, parse_cons _ _ _ (by decide), put_kind h, parse_nil _ (by show (2 : Nat) ≤ 3; decide)]; rfl
theorem pv_third {l : L} {c d : Int} (h : 49 ≤ c ∧ c ≤ 54) (hd : ¬ (Tk.blank d = true ∨ d = 35)) (cs : List Int) : parseV l (80 :: c :: d :: cs) = (none, 3, 3) := by
  unfold parseV
  have hp : put l (s2 (c - 48)) d = S.wrong (s2 (c - 48)) 3 := by unfold put; rw [if_neg (show ¬ (s2 (c - 48)).p = 0 from (show ¬ (2 : Nat) = 0 by decide)), if_neg (show ¬ (s2 (c - 48)).p = 1 from (show ¬ (2 : Nat) = 1 by decide)), if_pos (show (s2 (c - 48)).p = 2 from rfl), if_neg hd]
  rw [parse_cons _ _ _ (by decide), put80, parse_cons _ _ _ (by decide), put_kind h, parse_cons _ _ _ (by show (2 : Nat) ≤ 3; decide), hp, parse_wrong _ _ rfl]; rfl
theorem pv_go {l : L} {c d : Int} (h : 49 ≤ c ∧ c ≤ 54) (hd : Tk.blank d = true ∨ d = 35) (cs : List Int) : parseV l (80 :: c :: d :: cs) = parseF l (s3 (c - 48)) 2 (d :: cs) := by
  unfold parseV
  rw [parse_cons _ _ _ (by decide), put80, parse_cons _ _ _ (by decide), put_kind h, parse_third rfl _ hd]; rfl
end Hd
theorem bytes_at0 {s : ByteArray} (h : 0 < s.size) : bytesOf s = (s[0].toNat : Int) :: (bytesOf s).drop 1 := by have := bytesOf_drop s 0 h; simpa using this
theorem bytes_at1 {s : ByteArray} (h : 1 < s.size) : (bytesOf s).drop 1 = (s[1].toNat : Int) :: (bytesOf s).drop 2 := bytesOf_drop s 1 h
theorem bytes_at2 {s : ByteArray} (h : 2 < s.size) : (bytesOf s).drop 2 = (s[2].toNat : Int) :: (bytesOf s).drop 3 := bytesOf_drop s 2 h
end Go.Proofs.YtkjkepnailamnaaGreat

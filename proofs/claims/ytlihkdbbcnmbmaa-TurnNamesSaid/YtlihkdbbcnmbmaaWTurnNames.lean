/- TurnNames: turns' names are no two the same, and tell quarters and mirror: the walk of the law. No condition. -/
import Derived.Test.YtlihkdbbcnmbmaaTurE
import Derived.Test.YtlihkdbbcnmbmaaTurG
namespace Go.Proofs.Ytlihkdbbcnmbmaa
open Go.RowKit
set_option linter.unusedVariables false

set_option maxRecDepth 100000 in
set_option maxHeartbeats 4000000 in
theorem turnNames_walk (a0 : Int) (w : World) (w0 : (Lit.int .i64 a0).wf = true) :
    Calls Try.prog 12 #[.int .i64 a0] w fun e w' => e = .returned (.bool true) ∧ Below w.heap.size w w' := by
  clear w0
  go_enter Try.func12, Try.ntmps12
  go_wp2
  refine wp_loop_rounds 9 ?_
  rw [rounds_succ]
  go_wp2
  go_region_held3 (fun w' => w'.cell? ⟨w.heap.size, 0, none⟩ = some (.string ⟨#[114, 48]⟩)) (go_keep) (first
    | (go_at_call 44; refine (name_0 _).mono ?_; rintro e w9 ⟨rfl, rfl⟩)
    | (go_at_call 43; refine (turnMay_any _ _).mono ?_; rw [show Tu.isT 0 = true from rfl]; rintro e w9 ⟨rfl, rfl⟩))
  go_wp2
  rw [rounds_succ]
  go_wp2
  go_region_held3 (fun w' => w'.cell? ⟨w.heap.size, 1, none⟩ = some (.string ⟨#[114, 49]⟩)) (go_keep) (first
    | (go_at_call 44; refine (name_1 _).mono ?_; rintro e w9 ⟨rfl, rfl⟩)
    | (go_at_call 43; refine (turnMay_any _ _).mono ?_; rw [show Tu.isT 1 = true from rfl]; rintro e w9 ⟨rfl, rfl⟩))
  go_wp2
  rw [rounds_succ]
  go_wp2
  go_region_held3 (fun w' => w'.cell? ⟨w.heap.size, 2, none⟩ = some (.string ⟨#[114, 50]⟩)) (go_keep) (first
    | (go_at_call 44; refine (name_2 _).mono ?_; rintro e w9 ⟨rfl, rfl⟩)
    | (go_at_call 43; refine (turnMay_any _ _).mono ?_; rw [show Tu.isT 2 = true from rfl]; rintro e w9 ⟨rfl, rfl⟩))
  go_wp2
  rw [rounds_succ]
  go_wp2
  go_region_held3 (fun w' => w'.cell? ⟨w.heap.size, 3, none⟩ = some (.string ⟨#[114, 51]⟩)) (go_keep) (first
    | (go_at_call 44; refine (name_3 _).mono ?_; rintro e w9 ⟨rfl, rfl⟩)
    | (go_at_call 43; refine (turnMay_any _ _).mono ?_; rw [show Tu.isT 3 = true from rfl]; rintro e w9 ⟨rfl, rfl⟩))
  go_wp2
  rw [rounds_succ]
  go_wp2
  go_region_held3 (fun w' => w'.cell? ⟨w.heap.size, 4, none⟩ = some (.string ⟨#[115, 48]⟩)) (go_keep) (first
    | (go_at_call 44; refine (name_4 _).mono ?_; rintro e w9 ⟨rfl, rfl⟩)
    | (go_at_call 43; refine (turnMay_any _ _).mono ?_; rw [show Tu.isT 4 = true from rfl]; rintro e w9 ⟨rfl, rfl⟩))
  go_wp2
  rw [rounds_succ]
  go_wp2
  go_region_held3 (fun w' => w'.cell? ⟨w.heap.size, 5, none⟩ = some (.string ⟨#[115, 49]⟩)) (go_keep) (first
    | (go_at_call 44; refine (name_5 _).mono ?_; rintro e w9 ⟨rfl, rfl⟩)
    | (go_at_call 43; refine (turnMay_any _ _).mono ?_; rw [show Tu.isT 5 = true from rfl]; rintro e w9 ⟨rfl, rfl⟩))
  go_wp2
  rw [rounds_succ]
  go_wp2
  go_region_held3 (fun w' => w'.cell? ⟨w.heap.size, 6, none⟩ = some (.string ⟨#[115, 50]⟩)) (go_keep) (first
    | (go_at_call 44; refine (name_6 _).mono ?_; rintro e w9 ⟨rfl, rfl⟩)
    | (go_at_call 43; refine (turnMay_any _ _).mono ?_; rw [show Tu.isT 6 = true from rfl]; rintro e w9 ⟨rfl, rfl⟩))
  go_wp2
  rw [rounds_succ]
  go_wp2
  go_region_held3 (fun w' => w'.cell? ⟨w.heap.size, 7, none⟩ = some (.string ⟨#[115, 51]⟩)) (go_keep) (first
    | (go_at_call 44; refine (name_7 _).mono ?_; rintro e w9 ⟨rfl, rfl⟩)
    | (go_at_call 43; refine (turnMay_any _ _).mono ?_; rw [show Tu.isT 7 = true from rfl]; rintro e w9 ⟨rfl, rfl⟩))
  go_wp2
  rw [rounds_succ]
  have T8 := Lib.hid (show Tu.isT 8 = false from rfl)
  have N8 := Lib.hid (fun W2 => name_no 8 rfl W2)
  have N9 := Lib.hid (fun W2 => name_no (-1) rfl W2)
  cases hT : Tu.isT a0 with
  | true =>
    obtain ⟨k, hk, rfl⟩ := Tu.isT_nat hT
    clear hT
    rcases Tu.turn8 hk with rfl | rfl | rfl | rfl | rfl | rfl | rfl | rfl
    · rw [show ((0 : Nat) : Int) = 0 from rfl]
      clear hk
      have HT := Lib.hid (show Tu.isT 0 = true from rfl)
      go_wp2_with (first
      | (go_at_call 44; first
          | (with_reducible refine (name_0 _).mono ?_; rintro e w9 ⟨rfl, rfl⟩)
          | (with_reducible refine (N8.out _).mono ?_; rintro e w9 ⟨rfl, rfl⟩)
          | (with_reducible refine (N9.out _).mono ?_; rintro e w9 ⟨rfl, rfl⟩))
      | (go_at_call 43; refine (turnMay_any _ _).mono ?_; (first | rw [HT.out] | rw [T8.out]); rintro e w9 ⟨rfl, rfl⟩)
      | (go_at_call 47; refine (lives4_any _).mono ?_; rintro e w9 ⟨rfl, hb⟩))
      go_ret
      exact ⟨rfl, Below.trans (by repeat (first | exact (Below.refl w.heap.size w).alloc (Nat.le_refl _) _ | apply Below.drew)) (hb.mono (by simp))⟩
    · rw [show ((1 : Nat) : Int) = 1 from rfl]
      clear hk
      have HT := Lib.hid (show Tu.isT 1 = true from rfl)
      go_wp2_with (first
      | (go_at_call 44; first
          | (with_reducible refine (name_1 _).mono ?_; rintro e w9 ⟨rfl, rfl⟩)
          | (with_reducible refine (N8.out _).mono ?_; rintro e w9 ⟨rfl, rfl⟩)
          | (with_reducible refine (N9.out _).mono ?_; rintro e w9 ⟨rfl, rfl⟩))
      | (go_at_call 43; refine (turnMay_any _ _).mono ?_; (first | rw [HT.out] | rw [T8.out]); rintro e w9 ⟨rfl, rfl⟩)
      | (go_at_call 47; refine (lives4_any _).mono ?_; rintro e w9 ⟨rfl, hb⟩))
      go_ret
      exact ⟨rfl, Below.trans (by repeat (first | exact (Below.refl w.heap.size w).alloc (Nat.le_refl _) _ | apply Below.drew)) (hb.mono (by simp))⟩
    · rw [show ((2 : Nat) : Int) = 2 from rfl]
      clear hk
      have HT := Lib.hid (show Tu.isT 2 = true from rfl)
      go_wp2_with (first
      | (go_at_call 44; first
          | (with_reducible refine (name_2 _).mono ?_; rintro e w9 ⟨rfl, rfl⟩)
          | (with_reducible refine (N8.out _).mono ?_; rintro e w9 ⟨rfl, rfl⟩)
          | (with_reducible refine (N9.out _).mono ?_; rintro e w9 ⟨rfl, rfl⟩))
      | (go_at_call 43; refine (turnMay_any _ _).mono ?_; (first | rw [HT.out] | rw [T8.out]); rintro e w9 ⟨rfl, rfl⟩)
      | (go_at_call 47; refine (lives4_any _).mono ?_; rintro e w9 ⟨rfl, hb⟩))
      go_ret
      exact ⟨rfl, Below.trans (by repeat (first | exact (Below.refl w.heap.size w).alloc (Nat.le_refl _) _ | apply Below.drew)) (hb.mono (by simp))⟩
    · rw [show ((3 : Nat) : Int) = 3 from rfl]
      clear hk
      have HT := Lib.hid (show Tu.isT 3 = true from rfl)
      go_wp2_with (first
      | (go_at_call 44; first
          | (with_reducible refine (name_3 _).mono ?_; rintro e w9 ⟨rfl, rfl⟩)
          | (with_reducible refine (N8.out _).mono ?_; rintro e w9 ⟨rfl, rfl⟩)
          | (with_reducible refine (N9.out _).mono ?_; rintro e w9 ⟨rfl, rfl⟩))
      | (go_at_call 43; refine (turnMay_any _ _).mono ?_; (first | rw [HT.out] | rw [T8.out]); rintro e w9 ⟨rfl, rfl⟩)
      | (go_at_call 47; refine (lives4_any _).mono ?_; rintro e w9 ⟨rfl, hb⟩))
      go_ret
      exact ⟨rfl, Below.trans (by repeat (first | exact (Below.refl w.heap.size w).alloc (Nat.le_refl _) _ | apply Below.drew)) (hb.mono (by simp))⟩
    · rw [show ((4 : Nat) : Int) = 4 from rfl]
      clear hk
      have HT := Lib.hid (show Tu.isT 4 = true from rfl)
      go_wp2_with (first
      | (go_at_call 44; first
          | (with_reducible refine (name_4 _).mono ?_; rintro e w9 ⟨rfl, rfl⟩)
          | (with_reducible refine (N8.out _).mono ?_; rintro e w9 ⟨rfl, rfl⟩)
          | (with_reducible refine (N9.out _).mono ?_; rintro e w9 ⟨rfl, rfl⟩))
      | (go_at_call 43; refine (turnMay_any _ _).mono ?_; (first | rw [HT.out] | rw [T8.out]); rintro e w9 ⟨rfl, rfl⟩)
      | (go_at_call 47; refine (lives4_any _).mono ?_; rintro e w9 ⟨rfl, hb⟩))
      go_ret
      exact ⟨rfl, Below.trans (by repeat (first | exact (Below.refl w.heap.size w).alloc (Nat.le_refl _) _ | apply Below.drew)) (hb.mono (by simp))⟩
    · rw [show ((5 : Nat) : Int) = 5 from rfl]
      clear hk
      have HT := Lib.hid (show Tu.isT 5 = true from rfl)
      go_wp2_with (first
      | (go_at_call 44; first
          | (with_reducible refine (name_5 _).mono ?_; rintro e w9 ⟨rfl, rfl⟩)
          | (with_reducible refine (N8.out _).mono ?_; rintro e w9 ⟨rfl, rfl⟩)
          | (with_reducible refine (N9.out _).mono ?_; rintro e w9 ⟨rfl, rfl⟩))
      | (go_at_call 43; refine (turnMay_any _ _).mono ?_; (first | rw [HT.out] | rw [T8.out]); rintro e w9 ⟨rfl, rfl⟩)
      | (go_at_call 47; refine (lives4_any _).mono ?_; rintro e w9 ⟨rfl, hb⟩))
      go_ret
      exact ⟨rfl, Below.trans (by repeat (first | exact (Below.refl w.heap.size w).alloc (Nat.le_refl _) _ | apply Below.drew)) (hb.mono (by simp))⟩
    · rw [show ((6 : Nat) : Int) = 6 from rfl]
      clear hk
      have HT := Lib.hid (show Tu.isT 6 = true from rfl)
      go_wp2_with (first
      | (go_at_call 44; first
          | (with_reducible refine (name_6 _).mono ?_; rintro e w9 ⟨rfl, rfl⟩)
          | (with_reducible refine (N8.out _).mono ?_; rintro e w9 ⟨rfl, rfl⟩)
          | (with_reducible refine (N9.out _).mono ?_; rintro e w9 ⟨rfl, rfl⟩))
      | (go_at_call 43; refine (turnMay_any _ _).mono ?_; (first | rw [HT.out] | rw [T8.out]); rintro e w9 ⟨rfl, rfl⟩)
      | (go_at_call 47; refine (lives4_any _).mono ?_; rintro e w9 ⟨rfl, hb⟩))
      go_ret
      exact ⟨rfl, Below.trans (by repeat (first | exact (Below.refl w.heap.size w).alloc (Nat.le_refl _) _ | apply Below.drew)) (hb.mono (by simp))⟩
    · rw [show ((7 : Nat) : Int) = 7 from rfl]
      clear hk
      have HT := Lib.hid (show Tu.isT 7 = true from rfl)
      go_wp2_with (first
      | (go_at_call 44; first
          | (with_reducible refine (name_7 _).mono ?_; rintro e w9 ⟨rfl, rfl⟩)
          | (with_reducible refine (N8.out _).mono ?_; rintro e w9 ⟨rfl, rfl⟩)
          | (with_reducible refine (N9.out _).mono ?_; rintro e w9 ⟨rfl, rfl⟩))
      | (go_at_call 43; refine (turnMay_any _ _).mono ?_; (first | rw [HT.out] | rw [T8.out]); rintro e w9 ⟨rfl, rfl⟩)
      | (go_at_call 47; refine (lives4_any _).mono ?_; rintro e w9 ⟨rfl, hb⟩))
      go_ret
      exact ⟨rfl, Below.trans (by repeat (first | exact (Below.refl w.heap.size w).alloc (Nat.le_refl _) _ | apply Below.drew)) (hb.mono (by simp))⟩
  | false =>
    have HT := Lib.hid hT
    have HN := Lib.hid (fun W2 => name_no a0 hT W2)
    have h12 := Tu.isT_no.1 hT
    clear hT
    by_cases h1 : 0 ≤ a0
    · have h2 : ¬ a0 < 8 := by omega
      clear h12
      go_wp2_with (first
      | (go_at_call 44; first
          | (with_reducible refine (HN.out _).mono ?_; rintro e w9 ⟨rfl, rfl⟩)
          | (with_reducible refine (N8.out _).mono ?_; rintro e w9 ⟨rfl, rfl⟩)
          | (with_reducible refine (N9.out _).mono ?_; rintro e w9 ⟨rfl, rfl⟩))
      | (go_at_call 43; refine (turnMay_any _ _).mono ?_; (first | rw [HT.out] | rw [T8.out]); rintro e w9 ⟨rfl, rfl⟩)
      | (go_at_call 47; refine (lives4_any _).mono ?_; rintro e w9 ⟨rfl, hb⟩))
      go_ret
      exact ⟨rfl, Below.trans (by repeat (first | exact (Below.refl w.heap.size w).alloc (Nat.le_refl _) _ | apply Below.drew)) (hb.mono (by simp))⟩
    · clear h12
      go_wp2_with (first
      | (go_at_call 44; first
          | (with_reducible refine (HN.out _).mono ?_; rintro e w9 ⟨rfl, rfl⟩)
          | (with_reducible refine (N8.out _).mono ?_; rintro e w9 ⟨rfl, rfl⟩)
          | (with_reducible refine (N9.out _).mono ?_; rintro e w9 ⟨rfl, rfl⟩))
      | (go_at_call 43; refine (turnMay_any _ _).mono ?_; (first | rw [HT.out] | rw [T8.out]); rintro e w9 ⟨rfl, rfl⟩)
      | (go_at_call 47; refine (lives4_any _).mono ?_; rintro e w9 ⟨rfl, hb⟩))
      go_ret
      exact ⟨rfl, Below.trans (by repeat (first | exact (Below.refl w.heap.size w).alloc (Nat.le_refl _) _ | apply Below.drew)) (hb.mono (by simp))⟩
end Go.Proofs.Ytlihkdbbcnmbmaa

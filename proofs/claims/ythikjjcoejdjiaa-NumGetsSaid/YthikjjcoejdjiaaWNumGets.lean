/- NumGets: the number that bytes begin with, or its error, is the document's: the walk of the law. No condition. -/
import Derived.Test.YthikjjcoejdjiaaNumP
namespace Go.Proofs.Ythikjjcoejdjiaa
open Go.RowKit
set_option linter.unusedVariables false

set_option maxRecDepth 100000 in
set_option maxHeartbeats 8000000 in
theorem numGets_walk (a0 : Option Addr) (len0 cap0 : Nat) (z0 : List Int) (a1 : Int) (w : World) (w0 : IsRow .u8 w a0 len0 cap0 z0) (w1 : (Lit.int .i64 a1).wf = true) :
    Calls Try.prog 7 #[.slice a0 len0 cap0, .int .i64 a1] w fun e w' => e = .returned (.bool true) ∧ Below w.heap.size w w' := by
  have h1 := Lib.hid (wfI w1)
  obtain ⟨l1, l2, l3, l4⟩ := isrow_len w0
  obtain ⟨m, hmm⟩ : ∃ m, ((len0 ≤ 12 ∧ m = len0) ∨ (12 < len0 ∧ m = 12)) := ⟨min len0 12, by omega⟩
  have hm1 : m ≤ len0 := by omega
  have hm12 : m ≤ 12 := by omega
  have S0 := Lib.hid (isrow_takeK w0 m hm1)
  have hzb : Hid (∀ x ∈ z0.take m, 0 ≤ x ∧ x ≤ 255) := fun x hx => wfB (isrow_wfK w0 x (List.mem_of_mem_take hx))
  generalize z0.take m = zs at S0 hzb
  clear w0 w1
  obtain ⟨k0, k1⟩ := Ar.around_lt a1 11 (by omega)
  obtain ⟨k, hk⟩ : ∃ k, Hid (Ar.around a1 11 = k) := ⟨_, rfl⟩
  rw [hk.out] at k0 k1
  obtain ⟨gx, gy, gz, hg⟩ : ∃ gx gy gz, Hid (Nu.getV zs = (gx, gy, gz)) := ⟨_, _, _, rfl⟩
  obtain ⟨i0, hi, hz0, hz1, hz2⟩ := info_parts Try.info_u8
  rcases hmm with ⟨h, rfl⟩ | ⟨h, rfl⟩
  · have kd : decide (12 < (m : Int)) = false := by simp; omega
    clear h
    go_enter Try.func7, Try.ntmps7
    go_wp2_with (go_at_call 15; refine (aroundOf a1 11 h1.out.1 h1.out.2 (by omega) (by omega) _).mono ?_; rw [hk.out]; rintro e w1 ⟨rfl, rfl⟩)
    go_loopw [5, 7] (fun u5 u7 wr => ∃ (i : Nat) (pre : List Int), i ≤ m ∧ u7 = .int .i64 i ∧ pre.length = i ∧ Hid (∀ x ∈ pre, 0 ≤ x ∧ x ≤ 255) ∧ wr.ownsRow w.heap.size 5 1 u5 i (pre.map (Value.int .u8)) ∧ Below w.heap.size w wr) (fun _ u7 _ => m - (intOf u7).toNat)
    case atStart => exact ⟨0, [], by omega, rfl, rfl, (by intro x hx; cases hx), World.ownsRow_nil _ _ _ _, Below.refl _ _⟩
    case round =>
      obtain ⟨i, pre, hi', rfl, hpl, hpb, hrow, hB⟩ := hrel
      have HP := Lib.hid hpl
      clear hpl
      have hsz := hB.size
      by_cases hlt : i < m
      · obtain ⟨hzl, hsl⟩ := S0.out
        obtain ⟨blk, off, ha, hcell⟩ : ∃ blk off, a0 = some ⟨blk, off, none⟩ ∧ w.cell? ⟨blk, off + i, none⟩ = some (.int .u8 (zs.getD i 0)) := by
          rcases hsl with h | ⟨blk, off, h, hc⟩
          · omega
          · exact ⟨blk, off, h, hc i hlt⟩
        subst ha
        obtain ⟨c0, c1⟩ := hzb.out (zs.getD i 0) (by rw [List.getD_eq_getElem?_getD, List.getElem?_eq_getElem (by omega)]; exact List.getElem_mem _)
        have hcell' := cell_later hB hcell
        obtain ⟨c, hc⟩ : ∃ c, Hid (zs.getD i 0 = c) := ⟨_, rfl⟩
        rw [hc.out] at hcell' c0 c1
        clear hcell hsl hzl
        by_cases hik : (i : Int) < k
        · by_cases h8 : c < 128
          · have ki : decide ((i : Int) < k) = true := decide_eq_true hik
            have k8 : decide (c < 128) = true := decide_eq_true h8
            go_wp2_with (at_builtin; refine wpList_append_own _ rfl _ _ 33 rfl w.heap.size 5 i0 (.int .u8 0) 1 1 Try.underlying33 hi hz0 hz1 hz2 rfl (by decide) _ i (pre.map (Value.int .u8)) rfl (hrow.alloc _) ⟨wr.heap.size, 0, none⟩ 1 1 [.int .u8 (c + 128)] rfl rfl (cell_one_new _ _ _) (by simp [Value.oneCell']) (by unfold maxLen; omega) (by omega) (by simp; omega) ?_; intro v4 w4 hown4 hgrow4 _)
            go_roundw
            case rel => exact ⟨i + 1, pre ++ [c + 128], by omega, by go_num, by simp [HP.out], by intro x hx; rcases List.mem_append.1 hx with hx | hx; exact hpb.out x hx; obtain rfl := List.mem_singleton.1 hx; omega, by rw [List.map_append]; exact hown4, (hB.alloc hsz _).grown hgrow4 (by simp; omega) (fun j ej => (hrow.lt j ej).1)⟩
            case measure => simp [intOf]; omega
          · have ki : decide ((i : Int) < k) = true := decide_eq_true hik
            have k8 : decide (c < 128) = false := decide_eq_false h8
            go_wp2_with (at_builtin; refine wpList_append_own _ rfl _ _ 33 rfl w.heap.size 5 i0 (.int .u8 0) 1 1 Try.underlying33 hi hz0 hz1 hz2 rfl (by decide) _ i (pre.map (Value.int .u8)) rfl (hrow.alloc _) ⟨wr.heap.size, 0, none⟩ 1 1 [.int .u8 c] rfl rfl (cell_one_new _ _ _) (by simp [Value.oneCell']) (by unfold maxLen; omega) (by omega) (by simp; omega) ?_; intro v4 w4 hown4 hgrow4 _)
            go_roundw
            case rel => exact ⟨i + 1, pre ++ [c], by omega, by go_num, by simp [HP.out], by intro x hx; rcases List.mem_append.1 hx with hx | hx; exact hpb.out x hx; obtain rfl := List.mem_singleton.1 hx; omega, by rw [List.map_append]; exact hown4, (hB.alloc hsz _).grown hgrow4 (by simp; omega) (fun j ej => (hrow.lt j ej).1)⟩
            case measure => simp [intOf]; omega
        · have ki : decide ((i : Int) < k) = false := decide_eq_false hik
          go_wp2_with (at_builtin; refine wpList_append_own _ rfl _ _ 33 rfl w.heap.size 5 i0 (.int .u8 0) 1 1 Try.underlying33 hi hz0 hz1 hz2 rfl (by decide) _ i (pre.map (Value.int .u8)) rfl (hrow.alloc _) ⟨wr.heap.size, 0, none⟩ 1 1 [.int .u8 c] rfl rfl (cell_one_new _ _ _) (by simp [Value.oneCell']) (by unfold maxLen; omega) (by omega) (by simp; omega) ?_; intro v4 w4 hown4 hgrow4 _)
          go_roundw
          case rel => exact ⟨i + 1, pre ++ [c], by omega, by go_num, by simp [HP.out], by intro x hx; rcases List.mem_append.1 hx with hx | hx; exact hpb.out x hx; obtain rfl := List.mem_singleton.1 hx; omega, by rw [List.map_append]; exact hown4, (hB.alloc hsz _).grown hgrow4 (by simp; omega) (fun j ej => (hrow.lt j ej).1)⟩
          case measure => simp [intOf]; omega
      · obtain rfl : i = m := by omega
        obtain ⟨ad, cp, rfl, ho, hcp⟩ := ownK_row HP.out hrow
        have hbw := hB.alloc hsz (.cells #[.slice a0 i cap0, .slice ad i cp] 33)
        have S1 := Lib.hid (S0.out.below hbw)
        have hsl := ho.sl
        rw [HP.out] at hsl
        have S2 := Lib.hid (hsl.below ((Below.refl wr.heap.size wr).alloc (Nat.le_refl _) (.cells #[.slice a0 i cap0, .slice ad i cp] 33)))
        obtain ⟨hx, hy, hzz, hh⟩ : ∃ gx gy gz, Hid (Nu.getV pre = (gx, gy, gz)) := ⟨_, _, _, rfl⟩
        clear hlt hrow ho hsl
        go_wp2
        refine wp_loop_rounds 3 ?_
        repeat any_goals (rw [rounds_succ]; go_wp2_with (first
          | (go_at_call 22; first | ((with_reducible refine (get_two a0 i cap0 zs _ (by omega) S1.out hzb.out gx gy gz hg.out).mono ?_); rintro e w6 ⟨rfl, rfl⟩) | ((with_reducible refine (get_two ad i cp pre _ (by omega) S2.out hpb.out hx hy hzz hh.out).mono ?_); rintro e w6 ⟨rfl, rfl⟩))
          | (go_at_call 23; first | ((with_reducible refine (refGet_two a0 i cap0 zs _ (by omega) S1.out hzb.out gx gy gz hg.out).mono ?_); rintro e w6 ⟨rfl, rfl⟩) | ((with_reducible refine (refGet_two ad i cp pre _ (by omega) S2.out hpb.out hx hy hzz hh.out).mono ?_); rintro e w6 ⟨rfl, rfl⟩))
          | (go_at_call 14; refine (lives_any _).mono ?_; rintro e w8 ⟨rfl, hb8⟩)))
        go_ret
        exact ⟨rfl, bel_step hbw hb8⟩
  · have kd : decide (12 < (len0 : Int)) = true := by simp; omega
    have kd2 : decide ((len0 : Int) ≤ 12) = false := by simp; omega
    have kd3 : (12 : Int) < len0 := by omega
    have kd4 : decide ((len0 : Int) < 12) = false := by simp; omega
    clear h
    go_enter Try.func7, Try.ntmps7
    go_wp2_with (go_at_call 15; refine (aroundOf a1 11 h1.out.1 h1.out.2 (by omega) (by omega) _).mono ?_; rw [hk.out]; rintro e w1 ⟨rfl, rfl⟩)
    go_loopw [5, 7] (fun u5 u7 wr => ∃ (i : Nat) (pre : List Int), i ≤ 12 ∧ u7 = .int .i64 i ∧ pre.length = i ∧ Hid (∀ x ∈ pre, 0 ≤ x ∧ x ≤ 255) ∧ wr.ownsRow w.heap.size 5 1 u5 i (pre.map (Value.int .u8)) ∧ Below w.heap.size w wr) (fun _ u7 _ => 12 - (intOf u7).toNat)
    case atStart => exact ⟨0, [], by omega, rfl, rfl, (by intro x hx; cases hx), World.ownsRow_nil _ _ _ _, Below.refl _ _⟩
    case round =>
      obtain ⟨i, pre, hi', rfl, hpl, hpb, hrow, hB⟩ := hrel
      have HP := Lib.hid hpl
      clear hpl
      have hsz := hB.size
      by_cases hlt : i < 12
      · obtain ⟨hzl, hsl⟩ := S0.out
        obtain ⟨blk, off, ha, hcell⟩ : ∃ blk off, a0 = some ⟨blk, off, none⟩ ∧ w.cell? ⟨blk, off + i, none⟩ = some (.int .u8 (zs.getD i 0)) := by
          rcases hsl with h | ⟨blk, off, h, hc⟩
          · omega
          · exact ⟨blk, off, h, hc i hlt⟩
        subst ha
        obtain ⟨c0, c1⟩ := hzb.out (zs.getD i 0) (by rw [List.getD_eq_getElem?_getD, List.getElem?_eq_getElem (by omega)]; exact List.getElem_mem _)
        have hcell' := cell_later hB hcell
        obtain ⟨c, hc⟩ : ∃ c, Hid (zs.getD i 0 = c) := ⟨_, rfl⟩
        rw [hc.out] at hcell' c0 c1
        clear hcell hsl hzl
        by_cases hik : (i : Int) < k
        · by_cases h8 : c < 128
          · have ki : decide ((i : Int) < k) = true := decide_eq_true hik
            have k8 : decide (c < 128) = true := decide_eq_true h8
            go_wp2_with (at_builtin; refine wpList_append_own _ rfl _ _ 33 rfl w.heap.size 5 i0 (.int .u8 0) 1 1 Try.underlying33 hi hz0 hz1 hz2 rfl (by decide) _ i (pre.map (Value.int .u8)) rfl (hrow.alloc _) ⟨wr.heap.size, 0, none⟩ 1 1 [.int .u8 (c + 128)] rfl rfl (cell_one_new _ _ _) (by simp [Value.oneCell']) (by unfold maxLen; omega) (by omega) (by simp; omega) ?_; intro v4 w4 hown4 hgrow4 _)
            go_roundw
            case rel => exact ⟨i + 1, pre ++ [c + 128], by omega, by go_num, by simp [HP.out], by intro x hx; rcases List.mem_append.1 hx with hx | hx; exact hpb.out x hx; obtain rfl := List.mem_singleton.1 hx; omega, by rw [List.map_append]; exact hown4, (hB.alloc hsz _).grown hgrow4 (by simp; omega) (fun j ej => (hrow.lt j ej).1)⟩
            case measure => simp [intOf]; omega
          · have ki : decide ((i : Int) < k) = true := decide_eq_true hik
            have k8 : decide (c < 128) = false := decide_eq_false h8
            go_wp2_with (at_builtin; refine wpList_append_own _ rfl _ _ 33 rfl w.heap.size 5 i0 (.int .u8 0) 1 1 Try.underlying33 hi hz0 hz1 hz2 rfl (by decide) _ i (pre.map (Value.int .u8)) rfl (hrow.alloc _) ⟨wr.heap.size, 0, none⟩ 1 1 [.int .u8 c] rfl rfl (cell_one_new _ _ _) (by simp [Value.oneCell']) (by unfold maxLen; omega) (by omega) (by simp; omega) ?_; intro v4 w4 hown4 hgrow4 _)
            go_roundw
            case rel => exact ⟨i + 1, pre ++ [c], by omega, by go_num, by simp [HP.out], by intro x hx; rcases List.mem_append.1 hx with hx | hx; exact hpb.out x hx; obtain rfl := List.mem_singleton.1 hx; omega, by rw [List.map_append]; exact hown4, (hB.alloc hsz _).grown hgrow4 (by simp; omega) (fun j ej => (hrow.lt j ej).1)⟩
            case measure => simp [intOf]; omega
        · have ki : decide ((i : Int) < k) = false := decide_eq_false hik
          go_wp2_with (at_builtin; refine wpList_append_own _ rfl _ _ 33 rfl w.heap.size 5 i0 (.int .u8 0) 1 1 Try.underlying33 hi hz0 hz1 hz2 rfl (by decide) _ i (pre.map (Value.int .u8)) rfl (hrow.alloc _) ⟨wr.heap.size, 0, none⟩ 1 1 [.int .u8 c] rfl rfl (cell_one_new _ _ _) (by simp [Value.oneCell']) (by unfold maxLen; omega) (by omega) (by simp; omega) ?_; intro v4 w4 hown4 hgrow4 _)
          go_roundw
          case rel => exact ⟨i + 1, pre ++ [c], by omega, by go_num, by simp [HP.out], by intro x hx; rcases List.mem_append.1 hx with hx | hx; exact hpb.out x hx; obtain rfl := List.mem_singleton.1 hx; omega, by rw [List.map_append]; exact hown4, (hB.alloc hsz _).grown hgrow4 (by simp; omega) (fun j ej => (hrow.lt j ej).1)⟩
          case measure => simp [intOf]; omega
      · obtain rfl : i = 12 := by omega
        obtain ⟨ad, cp, rfl, ho, hcp⟩ := ownK_row HP.out hrow
        have hbw := hB.alloc hsz (.cells #[.slice a0 12 cap0, .slice ad 12 cp] 33)
        have S1 := Lib.hid (S0.out.below hbw)
        have hsl := ho.sl
        rw [HP.out] at hsl
        have S2 := Lib.hid (hsl.below ((Below.refl wr.heap.size wr).alloc (Nat.le_refl _) (.cells #[.slice a0 12 cap0, .slice ad 12 cp] 33)))
        obtain ⟨hx, hy, hzz, hh⟩ : ∃ gx gy gz, Hid (Nu.getV pre = (gx, gy, gz)) := ⟨_, _, _, rfl⟩
        clear hlt hrow ho hsl
        go_wp2
        refine wp_loop_rounds 3 ?_
        repeat any_goals (rw [rounds_succ]; go_wp2_with (first
          | (go_at_call 22; first | ((with_reducible refine (get_two a0 12 cap0 zs _ (by omega) S1.out hzb.out gx gy gz hg.out).mono ?_); rintro e w6 ⟨rfl, rfl⟩) | ((with_reducible refine (get_two ad 12 cp pre _ (by omega) S2.out hpb.out hx hy hzz hh.out).mono ?_); rintro e w6 ⟨rfl, rfl⟩))
          | (go_at_call 23; first | ((with_reducible refine (refGet_two a0 12 cap0 zs _ (by omega) S1.out hzb.out gx gy gz hg.out).mono ?_); rintro e w6 ⟨rfl, rfl⟩) | ((with_reducible refine (refGet_two ad 12 cp pre _ (by omega) S2.out hpb.out hx hy hzz hh.out).mono ?_); rintro e w6 ⟨rfl, rfl⟩))
          | (go_at_call 14; refine (lives_any _).mono ?_; rintro e w8 ⟨rfl, hb8⟩)))
        go_ret
        exact ⟨rfl, bel_step hbw hb8⟩
end Go.Proofs.Ythikjjcoejdjiaa

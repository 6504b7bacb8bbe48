/- What the iterator of a row's pixels hands out, over any memory. Condition: the row has just as many bytes as its width asks for. -/
import Derived.Test.YtmnhiagppicegaaGreatZgAA
import Derived.Deep.QuietTactic
import Derived.BigQuiet
import Derived.Deep.LoopGhost
import Derived.Lib.ConvBytes
import Derived.Laws.AppendOwn
import Derived.Test.YtmnhiagppicegaaGreatProg
import Derived.LoopN
import Derived.RegionIn
import Derived.Laws.BitsAllLaws
import Derived.Stop.RegionWithIn
import Derived.Laws.CopyOwn
import Derived.Laws.Append
import Derived.Deep.AppendSrc
import Derived.Laws.IdiomCopy
import Derived.Room.Entries
import Derived.Laws.OwnMore
import Derived.Deep.AppendLies
import Derived.OwnWalkIn
import Derived.TacticsInMore
import Derived.LoopNIn
import Derived.LoopIn
import Derived.Handy
import Derived.Lib.Hide
import Derived.WalkKit
import Derived.WalkSpells
import Derived.WalkLawsBesides
import Derived.RegionTactic
import Derived.Lib.Walk
import Derived.Sort.WalkB12
import Derived.Lib.SlicesMore
import Derived.Lib.OwnBridge
import Derived.Laws.BytesArg
import Derived.Laws.StructEq
import Derived.ChangeKeysEq
import Derived.KernelRfl
namespace Go.Proofs.YtmnhiagppicegaaGreat
open Go.RowKit Go.Shelf
attribute [local go_sem] Oper.semAt_some
set_option linter.unusedVariables false
namespace Bt
/-- The iterator is made: two cells of its own, the row and how many pixels. -/
def Made (v : Value) (n : Int) (w : World) (e : Ending) (w' : World) : Prop :=
  ∃ nb bb, e = .returned (.func (.func 213) #[] #[.pointer (some ⟨nb, 0, none⟩), .pointer (some ⟨bb, 0, none⟩)]) ∧ nb ≠ bb ∧ w.heap.size ≤ nb ∧ w.heap.size ≤ bb ∧
    w'.cell? ⟨nb, 0, none⟩ = some v ∧ w'.cell? ⟨bb, 0, none⟩ = some (.int .i64 n) ∧ Below w.heap.size w w'
theorem pixels_made (a : Option Addr) (len cap : Nat) (n : Int) (w : World) : Calls Tryz.prog 207 #[.slice a len cap, .int .i64 n] w (Made (.slice a len cap) n w) := by
  go_enter Tryz.func207, Tryz.ntmps207
  go_wp2
  go_ret
  exact ⟨_, _, rfl, by omega, by omega, by omega, by simp [go_sem], by simp [go_sem], by go_grown⟩
theorem sep_below {Z : Nat → Prop} {A B : World} (h : Below A.heap.size A B) : Sep Z A B := ⟨h.os, h.tape, h.output, h.size, fun k hk _ => h.block k hk⟩
theorem take_split (xs : List Int) (p : Nat) (h : p < xs.length) : xs = xs.take p ++ xs.getD p 0 :: xs.drop (p + 1) := by
  conv => lhs; rw [← List.take_append_drop p xs, List.drop_eq_getElem_cons h]
  rw [List.getD_eq_getElem?_getD, List.getElem?_eq_getElem h]; rfl
theorem take_next (xs : List Int) (p : Nat) (h : p < xs.length) : xs.take p ++ [xs.getD p 0] = xs.take (p + 1) := by
  rw [List.take_succ_eq_append_getElem h, List.getD_eq_getElem?_getD, List.getElem?_eq_getElem h]; rfl
theorem getD_left (a b : List Int) (j : Nat) (h : j < a.length) : (a ++ b).getD j 0 = a.getD j 0 := by
  rw [List.getD_eq_getElem?_getD, List.getD_eq_getElem?_getD, List.getElem?_append_left h]
theorem getD_right (a b : List Int) (j : Nat) : (a ++ b).getD (a.length + j) 0 = b.getD j 0 := by
  rw [List.getD_eq_getElem?_getD, List.getD_eq_getElem?_getD, List.getElem?_append_right (by omega)]; congr 2; omega
theorem bitsOf_get : ∀ (zs : List Int) (k j : Nat), k < zs.length → j < 8 → (bitsOf zs).getD (8 * k + j) 0 = (eight (zs.getD k 0)).getD j 0
  | [], k, j, h, _ => by simp at h
  | c :: l, 0, j, h, hj => by
    rw [bitsOf, Nat.mul_zero, Nat.zero_add, getD_left _ _ _ (by rw [eight_len]; exact hj)]; rfl
  | c :: l, k + 1, j, h, hj => by
    rw [bitsOf, show 8 * (k + 1) + j = (eight c).length + (8 * k + j) by rw [eight_len]; omega, getD_right]
    rw [List.getD_cons_succ]
    exact bitsOf_get l k j (by simpa using h) hj
theorem pix_get (zs : List Int) (W k j : Nat) (h : k < zs.length) (hj : j < 8) (hp : 8 * k + j < W) : ((bitsOf zs).take W).getD (8 * k + j) 0 = (eight (zs.getD k 0)).getD j 0 := by
  rw [← bitsOf_get zs k j h hj, List.getD_eq_getElem?_getD, List.getElem?_take_of_lt hp, ← List.getD_eq_getElem?_getD]
def Zs (nb bb : Nat) (w : World) (k : Nat) : Prop := k = nb ∨ k = bb ∨ w.heap.size + 2 ≤ k
def Zp (nb bb rb : Nat) (w : World) (k : Nat) : Prop := k = nb ∨ k = bb ∨ k = rb ∨ w.heap.size + 2 ≤ k
set_option maxRecDepth 100000 in
set_option maxHeartbeats 2000000 in
theorem pixels_gives (zs : List Int) (n W cap rb ro nb bb : Nat) (hzs : zs.length = n) (hby : ∀ z ∈ zs, 0 ≤ z ∧ z ≤ 255) (hn : 1 ≤ n) (hn2 : n ≤ 4096) (hW1 : W ≤ 8 * n) (hW2 : 8 * n < W + 8) (hcap : n ≤ cap) (W0 : World) (m : Nat) (hm : 1 ≤ m)
    (cn : W0.cell? ⟨nb, 0, none⟩ = some (.slice (some ⟨rb, ro, none⟩) n cap)) (cb : W0.cell? ⟨bb, 0, none⟩ = some (.int .i64 W)) (hr : ∀ i, i < n → W0.cell? ⟨rb, ro + i, none⟩ = some (.int .u8 (zs.getD i 0))) :
    GivesN Fence.wide m Tryz.prog 213 #[.pointer (some ⟨nb, 0, none⟩), .pointer (some ⟨bb, 0, none⟩)] (fun x : Int => #[.int .i64 x]) (Zp nb bb rb W0) (Zs nb bb W0) ((bitsOf zs).take W) W0 := by
  intro l J Jx Wd hWs hW hJ hJx hY h00
  have cn1 := hW.cell (.inl rfl) cn
  have cb1 := hW.cell (.inr (.inl rfl)) cb
  have hr1 : ∀ i, i < n → Wd.cell? ⟨rb, ro + i, none⟩ = some (.int .u8 (zs.getD i 0)) := fun i hi => hW.cell (.inr (.inr (.inl rfl))) (hr i hi)
  clear cn cb hr hW
  obtain ⟨xs, hxs⟩ : ∃ xs, (bitsOf zs).take W = xs := ⟨_, rfl⟩
  have hxl : xs.length = W := by rw [← hxs, List.length_take, bitsOf_len]; omega
  have hget : ∀ k j, k < n → j < 8 → 8 * k + j < W → xs.getD (8 * k + j) 0 = (eight (zs.getD k 0)).getD j 0 := fun k j h1 h2 h3 => by rw [← hxs]; exact pix_get zs W k j (by omega) h2 h3
  rw [hxs] at hY
  rw [hxs]
  clear hxs
  have HY := Lib.hid hY; clear hY
  have HG := Lib.hid hget; clear hget
  have HL := Lib.hid hxl; clear hxl
  have HR := Lib.hid hr1; clear hr1
  have HB := Lib.hid hby; clear hby
  refine callsIn_of_wp Tryz.func213 rfl trivial ?_ rfl
  simp only [Tryz.ntmps213, List.size_toArray, List.length_cons, List.length_nil, Nat.reduceAdd, Nat.reduceSub, Array.replicate_succ, Array.replicate_zero, List.push_toArray, List.append_toArray, List.nil_append, List.cons_append]
  gi_wp2
  gi_loopw [11] (fun i wr => ∃ k : Nat, k ≤ n ∧ i = .int .i64 k ∧ W0.heap.size + 2 ≤ wr.heap.size ∧ J (xs.take (8 * k)) wr ∧ wr.cell? ⟨bb, 0, none⟩ = some (.int .i64 W) ∧ Hid (∀ i, i < n → wr.cell? ⟨rb, ro + i, none⟩ = some (.int .u8 (zs.getD i 0)))) (fun i _ => n - (intOf i).toNat)
  case atStart => exact ⟨0, Nat.zero_le _, rfl, hWs, by simpa using h00, cb1, HR⟩
  case round =>
    obtain ⟨k, hk, rfl, hws, hj, c2, hrr⟩ := hrel
    clear cn1 cb1 HR h00 hWs
    by_cases hlt : k < n
    · obtain ⟨c, hc⟩ : ∃ c, zs.getD k 0 = c := ⟨_, rfl⟩
      have hcc := hrr.out k hlt
      rw [hc] at hcc
      have hcb : 0 ≤ c ∧ c ≤ 255 := by
        rw [← hc, List.getD_eq_getElem?_getD, List.getElem?_eq_getElem (by omega)]; exact HB.out _ (List.getElem_mem _)
      obtain ⟨c0, c1⟩ := hcb
      have HC := Lib.hid hc; clear hc
      have k0 : (0 : Int) ≤ k := Int.natCast_nonneg _
      have k1 : (k : Int) < n := by omega
      by_cases h8 : 8 * k + 8 ≤ W
      · have hmn : min (8 : Int) ((W : Int) - 8 * (k : Int)) = 8 := by omega
        gi_wp2_with (refine ⟨trivial, ?_⟩; gi_at_call 214; refine (callsIn_wide.2 (split_any c c0 c1 _)).mono ?_; rintro e w3 ⟨rfl, hb⟩; have hB := Lib.hid hb; have c23 := cell_later hb c2; have hs3 := hb.size; have nb3 := block_lt_of_cell c23; clear hb)
        obtain ⟨q, hq⟩ : ∃ q, w3.heap.size = q := ⟨_, rfl⟩
        obtain ⟨w4, h4⟩ : ∃ w4, w3.alloc (.cells #[.int .i64 (c / 128 % 2), .int .i64 (c / 64 % 2), .int .i64 (c / 32 % 2), .int .i64 (c / 16 % 2), .int .i64 (c / 8 % 2), .int .i64 (c / 4 % 2), .int .i64 (c / 2 % 2), .int .i64 (c % 2)] 265) = w4 := ⟨_, rfl⟩
        have hbel : Below wr.heap.size wr w4 := by rw [← h4]; exact hB.out.alloc (by omega) _
        have hs4 : w4.heap.size = q + 1 := by rw [← h4, World.size_alloc, hq]
        have h8c : Hid (∀ i, i < 8 → w4.cell? ⟨q, i, none⟩ = some (.int .i64 ((eight c).getD i 0))) := Lib.hid fun i hi => by
          rw [← h4, ← hq, World.cell?_alloc_at _ _ _ _ rfl]
          obtain rfl | rfl | rfl | rfl | rfl | rfl | rfl | rfl : i = 0 ∨ i = 1 ∨ i = 2 ∨ i = 3 ∨ i = 4 ∨ i = 5 ∨ i = 6 ∨ i = 7 := by omega
          all_goals rfl
        have c24 := cell_later hbel c2
        have hr4 : Hid (∀ i, i < n → w4.cell? ⟨rb, ro + i, none⟩ = some (.int .u8 (zs.getD i 0))) := Lib.hid fun i hi => cell_later hbel (hrr.out i hi)
        have hj4 : J (xs.take (8 * k)) w4 := hJ _ _ _ hj (sep_below hbel)
        have hq4 : W0.heap.size + 2 ≤ q := by omega
        rw [h4, hq]
        clear h4 hB hbel c23 nb3 hcc hrr hj c2
        clear hq hs3
        gi_loopw [25] (fun i wr' => ∃ j : Nat, j ≤ 8 ∧ i = .int .i64 j ∧ q + 1 ≤ wr'.heap.size ∧ J (xs.take (8 * k + j)) wr' ∧ wr'.cell? ⟨bb, 0, none⟩ = some (.int .i64 W) ∧ Hid (∀ i, i < n → wr'.cell? ⟨rb, ro + i, none⟩ = some (.int .u8 (zs.getD i 0))) ∧ Hid (∀ i, i < 8 → wr'.cell? ⟨q, i, none⟩ = some (.int .i64 ((eight c).getD i 0)))) (fun i _ => 8 - (intOf i).toNat)
        case atStart => exact ⟨0, Nat.zero_le _, rfl, by omega, hj4, c24, hr4, h8c⟩
        case round =>
          obtain ⟨j, hjp, rfl, hs5, hj5, c25, hr5, h85⟩ := hrel
          clear hj4 c24 hr4 h8c
          by_cases hjl : j < 8
          · obtain ⟨x, hx⟩ : ∃ x, (eight c).getD j 0 = x := ⟨_, rfl⟩
            have hxc := h85.out j (by omega)
            rw [hx] at hxc
            have hgx : xs.getD (8 * k + j) 0 = x := by rw [HG.out k j hlt (by omega) (by omega), HC.out, hx]
            have hpl : 8 * k + j < xs.length := by rw [HL.out]; omega
            have hsp := take_split xs (8 * k + j) hpl
            have hnx := take_next xs (8 * k + j) hpl
            rw [hgx] at hsp hnx
            obtain ⟨fn, tmps, assign, body, hy, hR⟩ := HY.out (xs.take (8 * k + j)) x (xs.drop (8 * k + j + 1)) wr hsp hj5
            rw [hnx] at hR
            have HN := Lib.hid hnx
            have j0 : (0 : Int) ≤ j := Int.natCast_nonneg _
            have j1 : (j : Int) < 8 := by omega
            clear hx hgx hpl hsp hnx
            gi_wp2
            refine hR.mono ?_
            rintro e W3 ⟨hh, (⟨rfl, hJ3⟩ | ⟨rfl, hJx3⟩)⟩
            · have c26 := hh.cell (.inr (.inl rfl)) c25
              have hr6 : Hid (∀ i, i < n → W3.cell? ⟨rb, ro + i, none⟩ = some (.int .u8 (zs.getD i 0))) := Lib.hid fun i hi => hh.cell (.inr (.inr (.inl rfl))) (hr5.out i hi)
              have h86 : Hid (∀ i, i < 8 → W3.cell? ⟨q, i, none⟩ = some (.int .i64 ((eight c).getD i 0))) := Lib.hid fun i hi => hh.cell (.inr (.inr (.inr (by omega)))) (h85.out i hi)
              have hs6 := hh.size
              clear hR hy c25 hr5 h85 hxc
              gi_wp2
              go_roundw
              case rel => exact ⟨j + 1, by omega, by go_num, by omega, hJ3, c26, hr6, h86⟩
              case measure => simp [intOf]; omega
            · gi_wp2
              refine bodyPost_ret (results_none rfl _ _ _) rfl ?_
              exact ⟨⟨_, rfl⟩, .inr ⟨xs.take (8 * k + j + 1), List.take_prefix _ _, hJx3⟩⟩
          · obtain rfl : j = 8 := by omega
            clear h85
            gi_wp2
            go_roundw
            case rel => exact ⟨k + 1, by omega, by go_num, by omega, by rw [show 8 * (k + 1) = 8 * k + 8 by omega]; exact hj5, c25, hr5⟩
            case measure => simp [intOf]; omega

      · obtain ⟨p, hp⟩ : ∃ p, W - 8 * k = p := ⟨_, rfl⟩
        have hpz : (W : Int) - 8 * k = p := by omega
        have p1 : 1 ≤ p := by omega
        have p8 : p < 8 := by omega
        have hmn : min (8 : Int) ((W : Int) - 8 * (k : Int)) = (p : Int) := by omega
        have hmn2 : min (8 : Int) (p : Int) = (p : Int) := by omega
        have hsl : ∀ b w', (Instr.sliceAt 265 (.pointer (some ⟨b, 0, none⟩)) none (some (.int .i64 (p : Int))) none).run Tryz.prog w' = .ok (.slice (some ⟨b, 0, none⟩) p 8) w' := by
          intro b w'
          obtain rfl | rfl | rfl | rfl | rfl | rfl | rfl : p = 1 ∨ p = 2 ∨ p = 3 ∨ p = 4 ∨ p = 5 ∨ p = 6 ∨ p = 7 := by omega
          all_goals kernel_rfl
        gi_wp2_with (refine ⟨trivial, ?_⟩; gi_at_call 214; refine (callsIn_wide.2 (split_any c c0 c1 _)).mono ?_; rintro e w3 ⟨rfl, hb⟩; have hB := Lib.hid hb; have c23 := cell_later hb c2; have hs3 := hb.size; have nb3 := block_lt_of_cell c23; clear hb)
        obtain ⟨q, hq⟩ : ∃ q, w3.heap.size = q := ⟨_, rfl⟩
        obtain ⟨w4, h4⟩ : ∃ w4, w3.alloc (.cells #[.int .i64 (c / 128 % 2), .int .i64 (c / 64 % 2), .int .i64 (c / 32 % 2), .int .i64 (c / 16 % 2), .int .i64 (c / 8 % 2), .int .i64 (c / 4 % 2), .int .i64 (c / 2 % 2), .int .i64 (c % 2)] 265) = w4 := ⟨_, rfl⟩
        have hbel : Below wr.heap.size wr w4 := by rw [← h4]; exact hB.out.alloc (by omega) _
        have hs4 : w4.heap.size = q + 1 := by rw [← h4, World.size_alloc, hq]
        have h8c : Hid (∀ i, i < 8 → w4.cell? ⟨q, i, none⟩ = some (.int .i64 ((eight c).getD i 0))) := Lib.hid fun i hi => by
          rw [← h4, ← hq, World.cell?_alloc_at _ _ _ _ rfl]
          obtain rfl | rfl | rfl | rfl | rfl | rfl | rfl | rfl : i = 0 ∨ i = 1 ∨ i = 2 ∨ i = 3 ∨ i = 4 ∨ i = 5 ∨ i = 6 ∨ i = 7 := by omega
          all_goals rfl
        have c24 := cell_later hbel c2
        have hr4 : Hid (∀ i, i < n → w4.cell? ⟨rb, ro + i, none⟩ = some (.int .u8 (zs.getD i 0))) := Lib.hid fun i hi => cell_later hbel (hrr.out i hi)
        have hj4 : J (xs.take (8 * k)) w4 := hJ _ _ _ hj (sep_below hbel)
        have hq4 : W0.heap.size + 2 ≤ q := by omega
        rw [h4, hq]
        clear h4 hB hbel c23 nb3 hcc hrr hj c2
        clear hq hs3
        gi_loopw [25] (fun i wr' => ∃ j : Nat, j ≤ p ∧ i = .int .i64 j ∧ q + 1 ≤ wr'.heap.size ∧ J (xs.take (8 * k + j)) wr' ∧ wr'.cell? ⟨bb, 0, none⟩ = some (.int .i64 W) ∧ Hid (∀ i, i < n → wr'.cell? ⟨rb, ro + i, none⟩ = some (.int .u8 (zs.getD i 0))) ∧ Hid (∀ i, i < 8 → wr'.cell? ⟨q, i, none⟩ = some (.int .i64 ((eight c).getD i 0)))) (fun i _ => p - (intOf i).toNat)
        case atStart => exact ⟨0, Nat.zero_le _, rfl, by omega, hj4, c24, hr4, h8c⟩
        case round =>
          obtain ⟨j, hjp, rfl, hs5, hj5, c25, hr5, h85⟩ := hrel
          clear hj4 c24 hr4 h8c
          by_cases hjl : j < p
          · obtain ⟨x, hx⟩ : ∃ x, (eight c).getD j 0 = x := ⟨_, rfl⟩
            have hxc := h85.out j (by omega)
            rw [hx] at hxc
            have hgx : xs.getD (8 * k + j) 0 = x := by rw [HG.out k j hlt (by omega) (by omega), HC.out, hx]
            have hpl : 8 * k + j < xs.length := by rw [HL.out]; omega
            have hsp := take_split xs (8 * k + j) hpl
            have hnx := take_next xs (8 * k + j) hpl
            rw [hgx] at hsp hnx
            obtain ⟨fn, tmps, assign, body, hy, hR⟩ := HY.out (xs.take (8 * k + j)) x (xs.drop (8 * k + j + 1)) wr hsp hj5
            rw [hnx] at hR
            have HN := Lib.hid hnx
            have j0 : (0 : Int) ≤ j := Int.natCast_nonneg _
            have j1 : (j : Int) < p := by omega
            clear hx hgx hpl hsp hnx
            gi_wp2
            refine hR.mono ?_
            rintro e W3 ⟨hh, (⟨rfl, hJ3⟩ | ⟨rfl, hJx3⟩)⟩
            · have c26 := hh.cell (.inr (.inl rfl)) c25
              have hr6 : Hid (∀ i, i < n → W3.cell? ⟨rb, ro + i, none⟩ = some (.int .u8 (zs.getD i 0))) := Lib.hid fun i hi => hh.cell (.inr (.inr (.inl rfl))) (hr5.out i hi)
              have h86 : Hid (∀ i, i < 8 → W3.cell? ⟨q, i, none⟩ = some (.int .i64 ((eight c).getD i 0))) := Lib.hid fun i hi => hh.cell (.inr (.inr (.inr (by omega)))) (h85.out i hi)
              have hs6 := hh.size
              clear hR hy c25 hr5 h85 hxc
              gi_wp2
              go_roundw
              case rel => exact ⟨j + 1, by omega, by go_num, by omega, hJ3, c26, hr6, h86⟩
              case measure => simp [intOf]; omega
            · gi_wp2
              refine bodyPost_ret (results_none rfl _ _ _) rfl ?_
              exact ⟨⟨_, rfl⟩, .inr ⟨xs.take (8 * k + j + 1), List.take_prefix _ _, hJx3⟩⟩
          · obtain rfl : p = j := by omega
            clear h85
            gi_wp2
            go_roundw
            case rel => exact ⟨k + 1, by omega, by go_num, by omega, by rw [List.take_of_length_le (by rw [HL.out]; omega)] at hj5 ⊢; exact hj5, c25, hr5⟩
            case measure => simp [intOf]; omega
    · obtain rfl : k = n := by omega
      gi_wp2
      go_end0
      exact ⟨⟨_, rfl⟩, .inl (by rw [List.take_of_length_le (by rw [HL.out]; omega)] at hj; exact hj)⟩
end Bt
end Go.Proofs.YtmnhiagppicegaaGreat

/- A row's own bytes, and its pixels, over any memory. Condition: numbers fit their kinds. -/
namespace Go.Proofs.YtmnhiagppicegaaGreat
open Go.RowKit Go.Shelf
attribute [local go_sem] Oper.semAt_some
set_option linter.unusedVariables false
namespace Bt
theorem rowOf_no (a : Option Addr) (len cap : Nat) (W : Int) (hl : len ≤ 9223372036854775807) (h : rowE len W ≠ 0) (w : World) :
    Calls Tryz.prog 206 #[.slice a len cap, .int .i64 W] w fun e w' => e = .returned (.tuple #[.slice none 0 0, .int .i64 (rowE len W)]) ∧ w = w' := by
  obtain ⟨n, hn⟩ : ∃ n, bytesV W = n := ⟨_, rfl⟩
  have HN := Lib.hid hn
  unfold rowE at h ⊢
  rw [hn] at h ⊢
  clear hn
  by_cases h0 : n = 0
  · have h0b : (n == 0) = true := by simpa using h0
    have X := Lib.hid (show (1 : Int) = (if n = 0 then 1 else if (len : Int) < n then 6 else 0) by rw [if_pos h0])
    rw [← X.out]
    clear h
    go_enter Tryz.func206, Tryz.ntmps206
    go_wp2_with (first | (go_at_call 188; refine (bytes_any _ _).mono ?_; rw [HN.out]; rintro e w1 ⟨rfl, rfl⟩))
    go_ret2
    exact ⟨rfl, rfl⟩
  · have h0b : (n == 0) = false := by simpa using h0
    by_cases h1 : (len : Int) < n
    · have X := Lib.hid (show (6 : Int) = (if n = 0 then 1 else if (len : Int) < n then 6 else 0) by rw [if_neg h0, if_pos h1])
      rw [← X.out]
      clear h
      go_enter Tryz.func206, Tryz.ntmps206
      go_wp2_with (first | (go_at_call 188; refine (bytes_any _ _).mono ?_; rw [HN.out]; rintro e w1 ⟨rfl, rfl⟩))
      go_ret2
      exact ⟨rfl, rfl⟩
    · rw [if_neg h0, if_neg h1] at h
      exact absurd rfl h
theorem rowOf_yes (b o : Nat) (len cap n : Nat) (W : Int) (hl : len ≤ cap) (hc : cap ≤ 9223372036854775807) (hn : bytesV W = n) (h1 : 1 ≤ n) (h2 : n ≤ len) (w : World) :
    Calls Tryz.prog 206 #[.slice (some ⟨b, o, none⟩) len cap, .int .i64 W] w fun e w' => e = .returned (.tuple #[.slice (some ⟨b, o, none⟩) n cap, .int .i64 0]) ∧ w = w' := by
  have HN := Lib.hid hn; clear hn
  have h0b : ((n : Int) == 0) = false := by simp; omega
  have h3 : ¬ (len : Int) < n := by omega
  have h4 : ¬ len < n := by omega
  go_enter Tryz.func206, Tryz.ntmps206
  go_wp2_with (first | (go_at_call 188; refine (bytes_any _ _).mono ?_; rw [HN.out]; rintro e w1 ⟨rfl, rfl⟩))
  go_ret2
  exact ⟨rfl, rfl⟩
theorem ownsRow_same {A B : World} {base size n cap g : Nat} {e : TypeId} {xs : List Value} (h : A.ownsRow base e size (.slice (some ⟨g, 0, none⟩) n cap) n xs) (hb : B.heap[g]? = A.heap[g]?) : B.ownsRow base e size (.slice (some ⟨g, 0, none⟩) n cap) n xs := by
  obtain ⟨h1, h2⟩ := h
  refine ⟨h1, ?_⟩
  rcases h2 with ⟨h2, _⟩ | ⟨g', cap', cur, h2, hg, hc, r⟩
  · cases h2
  · cases h2
    exact .inr ⟨g, cap, cur, rfl, hg, hb.trans hc, r⟩
theorem ownsRow_blk {A : World} {base size n cap g : Nat} {e : TypeId} {xs : List Value} (h : A.ownsRow base e size (.slice (some ⟨g, 0, none⟩) n cap) n xs) : base ≤ g ∧ g < A.heap.size := h.lt g rfl
/-- 'x = append(x, ..)' within the capacity, x in a cell of its own, in a round: all that the round owes. -/
theorem fitted {W w1 : World} {base B g : Nat} {t e : TypeId} {k m cap : Nat} {xs ys : List Value} {tmp : Obj}
    (hv : Boxed W B t (.slice (some ⟨g, 0, none⟩) k cap)) (hte : t ≠ e) (hrow : W.ownsRow base e 1 (.slice (some ⟨g, 0, none⟩) k cap) k xs) (hown' : w1.ownsRow base e 1 (.slice (some ⟨g, 0, none⟩) m cap) m ys) (hgrow : (W.alloc tmp).grownBy w1 (some g)) :
    Boxed w1 B t (.slice (some ⟨g, 0, none⟩) k cap) ∧ Boxed (w1.setCell ⟨B, 0, none⟩ (.slice (some ⟨g, 0, none⟩) m cap)) B t (.slice (some ⟨g, 0, none⟩) m cap) ∧ (w1.setCell ⟨B, 0, none⟩ (.slice (some ⟨g, 0, none⟩) m cap)).ownsRow base e 1 (.slice (some ⟨g, 0, none⟩) m cap) m ys ∧
    (∀ Z : Nat → Prop, ¬ Z B → ¬ Z g → Hold Z W (w1.setCell ⟨B, 0, none⟩ (.slice (some ⟨g, 0, none⟩) m cap))) ∧
    (∀ m', m' ≤ B → m' ≤ base → m' ≤ W.heap.size → Below m' W (w1.setCell ⟨B, 0, none⟩ (.slice (some ⟨g, 0, none⟩) m cap))) := by
  have hb : base ≤ g := (ownsRow_blk hrow).1
  have hne : some B ≠ some g := hv.not_row hte hrow
  have hv1 : Boxed w1 B t (.slice (some ⟨g, 0, none⟩) k cap) := (hv.alloc tmp).kept hgrow hne
  refine ⟨hv1, hv1.set _, hown'.kept (grownBy_setCell' w1 B _) (.inr (hv1.not_row hte hown').symm), fun Z hz hzg => ?_, fun m' h1 h2 h3 => ?_⟩
  · exact ((Hold.alloc Z W tmp).trans (.grown hgrow fun j ej => by cases ej; exact hzg)).trans (.setCell _ hz _)
  · exact (((Below.refl m' W).alloc h3 tmp).grown hgrow (by simp; omega) fun j ej => by cases ej; exact Nat.le_trans h2 hb).setCell (p := ⟨B, 0, none⟩) h1 _
def UnpR (xs : List Int) (er : Int) (w : World) (e : Ending) (w' : World) : Prop :=
  ∃ ad cap, e = .returned (.tuple #[.slice ad xs.length cap, .int .i64 er]) ∧ w'.ownsRow w.heap.size 3 1 (.slice ad xs.length cap) xs.length (xs.map (Value.int .i64)) ∧ Below w.heap.size w w'
theorem Tryz.info_int : (Tryz.prog.info? 3).map (fun i => (i.zero, i.size, i.bytes)) = some (some (.int .i64 0), 1, 8) := by kernel_rfl
set_option maxRecDepth 100000 in
theorem unpack_no (a : Option Addr) (len cap : Nat) (W : Int) (hl : len ≤ 9223372036854775807) (h : rowE len W ≠ 0) (w : World) :
    Calls Tryz.prog 197 #[.slice a len cap, .int .i64 W] w fun e w' => e = .returned (.tuple #[.slice none 0 0, .int .i64 (rowE len W)]) ∧ w = w' := by
  have hk : (rowE len W != 0) = true := by simpa using h
  have H := Lib.hid h; clear h
  obtain ⟨r, hr⟩ : ∃ r, rowE len W = r := ⟨_, rfl⟩
  have HR := Lib.hid hr
  rw [hr] at hk ⊢
  clear hr
  refine calls_of_marks Tryz.func197 rfl ?_
  simp only [Tryz.ntmps197, List.size_toArray, List.length_cons, List.length_nil, Nat.reduceAdd, Nat.reduceSub, Array.replicate_succ, Array.replicate_zero, List.push_toArray, List.append_toArray, List.nil_append, List.cons_append]
  go_wp2_with (first | (go_at_call 206; refine (rowOf_no _ _ _ _ hl H.out _).mono ?_; rw [HR.out]; rintro e w1 ⟨rfl, rfl⟩))
  exact ⟨_, results_tmp2 rfl _ _ _, rfl, rfl⟩
set_option maxRecDepth 100000 in
set_option maxHeartbeats 2000000 in
theorem unpack_yes (zs : List Int) (b o len cap n W : Nat) (hzs : zs.length = n) (hby : ∀ z ∈ zs, 0 ≤ z ∧ z ≤ 255) (hl : len ≤ cap) (hc : cap ≤ 9223372036854775807) (hn : bytesV W = n) (h1 : 1 ≤ n) (h2 : n ≤ len) (hn2 : n ≤ 4096) (hW1 : W ≤ 8 * n) (hW2 : 8 * n < W + 8) (w : World)
    (hr : ∀ i, i < n → w.cell? ⟨b, o + i, none⟩ = some (.int .u8 (zs.getD i 0))) :
    Calls Tryz.prog 197 #[.slice (some ⟨b, o, none⟩) len cap, .int .i64 W] w (UnpR ((bitsOf zs).take W) 0 w) := by
  obtain ⟨i0, hi, hz0, hz1, hz2⟩ := info_parts Tryz.info_int
  have HR := Lib.hid hr; clear hr
  have HN := Lib.hid hn; clear hn
  have W0 : (0 : Int) ≤ W := Int.natCast_nonneg _
  refine calls_of_marks Tryz.func197 rfl ?_
  simp only [Tryz.ntmps197, List.size_toArray, List.length_cons, List.length_nil, Nat.reduceAdd, Nat.reduceSub, Array.replicate_succ, Array.replicate_zero, List.push_toArray, List.append_toArray, List.nil_append, List.cons_append]
  go_wp2_with (first
    | (go_at_call 206; refine (rowOf_yes _ _ _ _ n _ hl hc HN.out h1 h2 _).mono ?_; rintro e w1 ⟨rfl, rfl⟩)
    | (at_make; refine wpList_make_own _ rfl _ _ 22 rfl w.heap.size 3 i0 (.int .i64 0) 1 Tryz.underlying22 hi hz0 hz1 .i64 .i64 (W : Int) W rfl rfl rfl (by rw [hz2]; omega) (by unfold maxLen; omega) (Nat.le_refl _) ?_; intro w1 hown hgrow; have hb1 : Below w.heap.size w w1 := (Below.refl _ w).grown hgrow (Nat.le_refl _) (by simp); have HO := Lib.hid hown; clear hown)
    | (go_at_call 207; refine (pixels_made _ _ _ _ _).mono ?_; rintro e w2 ⟨nb, bb, rfl, hne, l1, l2, cn, cb, hb⟩))
  simp only [World.size_alloc] at l1 l2
  have hbw : b < w.heap.size := by have := HR.out 0 (by omega); exact block_lt_of_cell this
  have hs1 := hb1.size
  have hs2 := hb.size
  have ln : nb < w2.heap.size := block_lt_of_cell cn
  have lb : bb < w2.heap.size := block_lt_of_cell cb
  have hg1 : w.heap.size < w1.heap.size := (ownsRow_blk HO.out).2
  obtain ⟨B, hB⟩ : ∃ B, w1.heap.size = B := ⟨_, rfl⟩
  have hv0 : Boxed w2 B 22 (.slice (some ⟨w.heap.size, 0, none⟩) 0 W) := by rw [← hB]; exact (hb.block _ (by simp)).trans (Boxed.new w1 _ _)
  have hr0 : w2.ownsRow w.heap.size 3 1 (.slice (some ⟨w.heap.size, 0, none⟩) 0 W) 0 [] := ownsRow_same (HO.out.alloc _) (hb.block _ (by simp; omega))
  have hbel : Below w.heap.size w w2 := (hb1.alloc (by omega) _).trans (hb.mono (by simp; omega))
  have hrow2 : ∀ i, i < n → w2.cell? ⟨b, o + i, none⟩ = some (.int .u8 (zs.getD i 0)) := fun i hi => cell_later hbel (HR.out i hi)
  rw [hB]
  rw [hB] at l1 l2 hg1
  simp only [World.size_alloc, hB] at hs2
  have hzB : ¬ (Zp nb bb b w2 B ∨ B = w2.heap.size ∨ B = w2.heap.size + 1) := by unfold Zp; omega
  have hyB : ¬ (Zs nb bb w2 B ∨ B = w2.heap.size ∨ B = w2.heap.size + 1) := by unfold Zs; omega
  have hzg : ¬ (Zp nb bb b w2 w.heap.size ∨ w.heap.size = w2.heap.size ∨ w.heap.size = w2.heap.size + 1) := by unfold Zp; omega
  have hyg : ¬ (Zs nb bb w2 w.heap.size ∨ w.heap.size = w2.heap.size ∨ w.heap.size = w2.heap.size + 1) := by unfold Zs; omega
  have hxl : ((bitsOf zs).take W).length = W := by rw [List.length_take, bitsOf_len]; omega
  have hGV := pixels_gives zs n W cap b o nb bb hzs hby h1 hn2 hW1 hW2 (by omega) w2 2 (by omega) cn cb hrow2
  obtain ⟨xs, hxs⟩ : ∃ xs, (bitsOf zs).take W = xs := ⟨_, rfl⟩
  rw [hxs] at hxl hGV
  have HX := Lib.hid hxs
  clear hb hB hb1 HO cn cb hxs hrow2
  refine range_wpN (gf := 213) (lb := #[.pointer (some ⟨nb, 0, none⟩), .pointer (some ⟨bb, 0, none⟩)]) rfl (enters_of Tryz.func213 (by kernel_rfl) rfl)
    hGV (by intro k; unfold Zp Zs; omega) (by unfold Zp; omega) (by unfold Zp; omega) (fun _ => rfl)
    (fun pre W' => Boxed W' B 22 (.slice (some ⟨w.heap.size, 0, none⟩) pre.length W) ∧ W'.ownsRow w.heap.size 3 1 (.slice (some ⟨w.heap.size, 0, none⟩) pre.length W) pre.length (pre.map (Value.int .i64)) ∧ Below w.heap.size w W')
    (fun _ _ _ => False) ?hI (fun _ _ _ _ hh _ => hh) ⟨hv0, hr0, hbel⟩ ?_ ?assign ?body ?done ?stop
  case hI =>
    rintro p A B' ⟨h1, h2, h4⟩ hs
    refine ⟨boxed_sep h1 hs hyB, ownsRow_same h2 (hs.block _ (ownsRow_blk h2).2 hyg), ?_⟩
    exact h4.trans (hs.below h4.size (by intro k hk; unfold Zs; omega))
  case assign =>
    intro l x W K hK
    gi_wp2
    exact hK
  case body =>
    rintro l pre x rest W' hx hlt ⟨hv, hrow, hB⟩
    have hp : pre.length + 1 ≤ W := by have := congrArg List.length hx; simp at this; omega
    clear hx hv0 hr0
    have hW := hB.size
    have hvc := hv.cell
    gi_wp2_with (gi_at_builtin; refine wpListIn_append_fits _ rfl _ _ 22 rfl w.heap.size 3 i0 1 Tryz.underlying22 hi hz1 w.heap.size pre.length W _ rfl (hrow.alloc _) ⟨W'.heap.size, 0, none⟩ 1 1 [.int .i64 x] rfl rfl (cell_one_new _ _ _) (by simp [Value.oneCell']) hp ?_; intro w5 hown' hgrow'; obtain ⟨hv1, hv2, hr2, hh2, hb2⟩ := fitted hv (by decide) hrow hown' hgrow'; have hc1 := hv1.cell; have hf1 := hv1.frozen)
    exact ⟨hh2 _ hzB hzg, by simpa using hv2, by simpa using hr2, hB.trans (hb2 _ (by omega) (Nat.le_refl _) hW)⟩
  case done =>
    rintro W' ⟨hv, hrow, hB⟩ hK
    have hvc := hv.cell
    rw [hxl] at hrow hvc
    clear hv0 hr0 hv
    go_wp2
    refine ret_mark hK (results_tmp2 rfl _ _ _) ?_
    have hlK : w2.heap.size < W'.heap.size := (Array.getElem?_eq_some_iff.1 hK).1
    rw [HX.out]
    refine ⟨some ⟨w.heap.size, 0, none⟩, W, by rw [hxl]; rfl, ?_, Below.putObj hB (by omega) _⟩
    rw [hxl]
    exact ownsRow_same hrow (World.putObj_heap_other (by omega))
  case stop =>
    rintro c pre W _ hh _
    exact hh.elim
end Bt
end Go.Proofs.YtmnhiagppicegaaGreat

/- A row's pixels, how many are 1, and its spare bits, over any memory, of bits. Condition: numbers fit their kinds. -/
namespace Go.Proofs.YtmnhiagppicegaaGreat
open Go.RowKit Go.Shelf
attribute [local go_sem] Oper.semAt_some
set_option linter.unusedVariables false
namespace Bt
/-- What is known of bytes that come in: a slice of them, each a byte. -/
def Bs (w : World) (a : Option Addr) (len cap : Nat) (zs : List Int) : Prop := SlK .u8 w a len zs ∧ len ≤ cap ∧ cap ≤ 9223372036854775807 ∧ ∀ z ∈ zs, 0 ≤ z ∧ z ≤ 255
theorem Bs.below {w w' : World} {a : Option Addr} {len cap : Nat} {zs : List Int} (h : Bs w a len cap zs) (hb : Below w.heap.size w w') : Bs w' a len cap zs := ⟨h.1.below hb, h.2⟩
theorem bytesV_pos {n : Nat} {W : Int} (h : rowE n W = 0) : ∃ N P : Nat, W = P ∧ bytesV W = N ∧ 1 ≤ N ∧ N ≤ n ∧ N ≤ 4096 ∧ P ≤ 8 * N ∧ 8 * N < P + 8 := by
  unfold rowE at h
  by_cases h0 : bytesV W = 0
  · rw [if_pos h0] at h; cases h
  · rw [if_neg h0] at h
    by_cases h1 : (n : Int) < bytesV W
    · rw [if_pos h1] at h; cases h
    · unfold bytesV at h0 h1 ⊢
      by_cases h2 : W < 1 ∨ 4096 < W
      · rw [if_pos h2] at h0; exact absurd rfl h0
      · rw [if_neg h2] at h1 ⊢
        exact ⟨((W + 7) / 8).toNat, W.toNat, by omega, by omega, by omega, by omega, by omega, by omega, by omega⟩
theorem bits_cut (zs : List Int) (N W : Nat) (hW : W ≤ 8 * N) : (bitsOf (zs.take N)).take W = (bitsOf zs).take W := by
  by_cases h : zs.length ≤ N
  · rw [List.take_of_length_le h]
  · conv => rhs; rw [← List.take_append_drop N zs, bitsOf_append]
    rw [List.take_append_of_le_length (by rw [bitsOf_len, List.length_take]; omega)]
/-- the row of bytes that is asked for -/
theorem row_of {w : World} {a : Option Addr} {len cap : Nat} {zs : List Int} (h : Bs w a len cap zs) {N : Nat} (h1 : 1 ≤ N) (h2 : N ≤ len) :
    ∃ b o, a = some ⟨b, o, none⟩ ∧ (zs.take N).length = N ∧ (∀ z ∈ zs.take N, 0 ≤ z ∧ z ≤ 255) ∧ ∀ i, i < N → w.cell? ⟨b, o + i, none⟩ = some (.int .u8 ((zs.take N).getD i 0)) := by
  obtain ⟨⟨hl, hs⟩, hc, hm, hby⟩ := h
  rcases hs with h0 | ⟨b, o, rfl, hs⟩
  · omega
  · refine ⟨b, o, rfl, by rw [List.length_take]; omega, fun z hz => hby z (List.mem_of_mem_take hz), fun i hi => ?_⟩
    rw [hs i (by omega), List.getD_eq_getElem?_getD, List.getD_eq_getElem?_getD, List.getElem?_take_of_lt hi]
theorem unpack_any (a : Option Addr) (len cap : Nat) (zs : List Int) (W : Int) (w : World) (h : Bs w a len cap zs) :
    Calls Tryz.prog 197 #[.slice a len cap, .int .i64 W] w (UnpR (unpackV zs W) (rowE len W) w) := by
  have hl : zs.length = len := h.1.1
  by_cases h0 : rowE len W = 0
  · obtain ⟨N, P, rfl, hN, h1, h2, h3, h4, h5⟩ := bytesV_pos h0
    obtain ⟨b, o, rfl, k1, k2, k3⟩ := row_of h h1 h2
    have := unpack_yes (zs.take N) b o len cap N P k1 k2 h.2.1 h.2.2.1 hN h1 h2 h3 h4 h5 w k3
    rw [bits_cut zs N P h4] at this
    unfold unpackV
    rw [hl, if_pos h0, h0]
    exact this
  · refine (unpack_no a len cap W (by have := h.2; omega) h0 w).mono ?_
    rintro e w' ⟨rfl, rfl⟩
    unfold unpackV
    rw [hl, if_neg h0]
    exact ⟨none, 0, rfl, World.ownsRow_nil _ _ _ _, Below.refl _ _⟩
end Bt
end Go.Proofs.YtmnhiagppicegaaGreat

/- One bit of bytes, over any memory, of bits and of the document's own answer. Condition: numbers fit their kinds. -/
namespace Go.Proofs.YtmnhiagppicegaaGreat
open Go.RowKit Go.Shelf
set_option linter.unusedVariables false
namespace Bt
/-- a bit, or -1 -/
def bitV (zs : List Int) (i : Int) : Int := if i < 0 then -1 else if zs.length ≤ i / 8 then -1 else (bitsOf zs).getD i.toNat 0
theorem bitV_in {zs : List Int} {k j : Nat} (hk : k < zs.length) (hj : j < 8) {i : Int} (hi : i = 8 * k + j) : bitV zs i = (eight (zs.getD k 0)).getD j 0 := by
  unfold bitV
  rw [if_neg (by omega), if_neg (by omega), show i.toNat = 8 * k + j by omega, bitsOf_get zs k j hk hj]
set_option maxRecDepth 100000 in
set_option maxHeartbeats 2000000 in
theorem refBit_yes (c i : Int) (b o len cap k j : Nat) (hi : i = 8 * k + j) (hj : j < 8) (hk : k < len) (hlc : len ≤ 9223372036854775807) (c0 : 0 ≤ c) (c1 : c ≤ 255) (hi9 : i ≤ 9223372036854775807) (w : World) (hc : w.cell? ⟨b, o + k, none⟩ = some (.int .u8 c)) :
    Calls Tryz.prog 184 #[.slice (some ⟨b, o, none⟩) len cap, .int .i64 i] w fun e w' => e = .returned (.int .i64 ((eight c).getD j 0)) ∧ w = w' := by
  have hq : i / 8 = k := by omega
  have hr : i % 8 = j := by omega
  have hi0 : 0 ≤ i := by omega
  have hk1 : (k : Int) < len := by omega
  have hk0 : (0 : Int) ≤ k := Int.natCast_nonneg _
  have hn1 : ¬ (len : Int) ≤ k := by omega
  have hn2 : ¬ len ≤ k := by omega
  clear hi
  obtain rfl | rfl | rfl | rfl | rfl | rfl | rfl | rfl : j = 0 ∨ j = 1 ∨ j = 2 ∨ j = 3 ∨ j = 4 ∨ j = 5 ∨ j = 6 ∨ j = 7 := by omega
  · rw [show (((0 : Nat)) : Int) = 0 from rfl] at hr
    rw [show (eight c).getD 0 0 = c / 128 % 2 from rfl]
    go_enter Tryz.func184, Tryz.ntmps184
    go_wp2
    go_rounds 8
    go_ret
    exact ⟨ret_i (by omega), rfl⟩
  · rw [show (((1 : Nat)) : Int) = 1 from rfl] at hr
    rw [show (eight c).getD 1 0 = c / 64 % 2 from rfl]
    go_enter Tryz.func184, Tryz.ntmps184
    go_wp2
    go_rounds 7
    go_ret
    exact ⟨ret_i (by omega), rfl⟩
  · rw [show (((2 : Nat)) : Int) = 2 from rfl] at hr
    rw [show (eight c).getD 2 0 = c / 32 % 2 from rfl]
    go_enter Tryz.func184, Tryz.ntmps184
    go_wp2
    go_rounds 6
    go_ret
    exact ⟨ret_i (by omega), rfl⟩
  · rw [show (((3 : Nat)) : Int) = 3 from rfl] at hr
    rw [show (eight c).getD 3 0 = c / 16 % 2 from rfl]
    go_enter Tryz.func184, Tryz.ntmps184
    go_wp2
    go_rounds 5
    go_ret
    exact ⟨ret_i (by omega), rfl⟩
  · rw [show (((4 : Nat)) : Int) = 4 from rfl] at hr
    rw [show (eight c).getD 4 0 = c / 8 % 2 from rfl]
    go_enter Tryz.func184, Tryz.ntmps184
    go_wp2
    go_rounds 4
    go_ret
    exact ⟨ret_i (by omega), rfl⟩
  · rw [show (((5 : Nat)) : Int) = 5 from rfl] at hr
    rw [show (eight c).getD 5 0 = c / 4 % 2 from rfl]
    go_enter Tryz.func184, Tryz.ntmps184
    go_wp2
    go_rounds 3
    go_ret
    exact ⟨ret_i (by omega), rfl⟩
  · rw [show (((6 : Nat)) : Int) = 6 from rfl] at hr
    rw [show (eight c).getD 6 0 = c / 2 % 2 from rfl]
    go_enter Tryz.func184, Tryz.ntmps184
    go_wp2
    go_rounds 2
    go_ret
    exact ⟨ret_i (by omega), rfl⟩
  · rw [show (((7 : Nat)) : Int) = 7 from rfl] at hr
    rw [show (eight c).getD 7 0 = c % 2 from rfl]
    go_enter Tryz.func184, Tryz.ntmps184
    go_wp2
    go_rounds 1
    go_ret
    exact ⟨ret_i (by omega), rfl⟩
theorem refBit_no (a : Option Addr) (i : Int) (len cap : Nat) (hl : len ≤ 9223372036854775807) (h9 : -9223372036854775808 ≤ i ∧ i ≤ 9223372036854775807) (h : i < 0 ∨ (len : Int) ≤ i / 8) (w : World) :
    Calls Tryz.prog 184 #[.slice a len cap, .int .i64 i] w fun e w' => e = .returned (.int .i64 (-1)) ∧ w = w' := by
  obtain ⟨h8, h9⟩ := h9
  by_cases h0 : i < 0
  · clear h
    go_enter Tryz.func184, Tryz.ntmps184
    go_wp2
    go_ret
    exact ⟨rfl, rfl⟩
  · have h1 : (len : Int) ≤ i / 8 := by omega
    have h2 : 0 ≤ i := by omega
    clear h
    go_enter Tryz.func184, Tryz.ntmps184
    go_wp2
    go_ret
    exact ⟨rfl, rfl⟩
theorem place (i : Int) (len : Nat) (h0 : ¬ i < 0) (h1 : ¬ (len : Int) ≤ i / 8) : ∃ k j : Nat, i = 8 * k + j ∧ j < 8 ∧ k < len :=
  ⟨(i / 8).toNat, (i % 8).toNat, by omega, by omega, by omega⟩
theorem refBit_any (a : Option Addr) (len cap : Nat) (zs : List Int) (i : Int) (h9 : -9223372036854775808 ≤ i ∧ i ≤ 9223372036854775807) (w : World) (h : Bs w a len cap zs) :
    Calls Tryz.prog 184 #[.slice a len cap, .int .i64 i] w fun e w' => e = .returned (.int .i64 (bitV zs i)) ∧ w = w' := by
  obtain ⟨⟨hl, hs⟩, hc, hm, hby⟩ := h
  by_cases h0 : i < 0
  · unfold bitV
    rw [if_pos h0]
    exact refBit_no a i len cap (by omega) h9 (.inl h0) w
  · by_cases h1 : (len : Int) ≤ i / 8
    · unfold bitV
      rw [if_neg h0, hl, if_pos h1]
      exact refBit_no a i len cap (by omega) h9 (.inr h1) w
    · obtain ⟨k, j, e1, e2, e3⟩ := place i len h0 h1
      rcases hs with hs | ⟨b, o, rfl, hs⟩
      · omega
      · have hz := hby (zs.getD k 0) (by rw [List.getD_eq_getElem?_getD, List.getElem?_eq_getElem (by omega)]; exact List.getElem_mem _)
        rw [bitV_in (by omega) e2 e1]
        exact refBit_yes (zs.getD k 0) i b o len cap k j e1 e2 e3 (by omega) hz.1 hz.2 h9.2 w (hs k e3)
end Bt
end Go.Proofs.YtmnhiagppicegaaGreat

/- A row's pixels, by the document's own answer, over any memory. Condition: numbers fit their kinds. -/
namespace Go.Proofs.YtmnhiagppicegaaGreat
open Go.RowKit Go.Shelf
set_option linter.unusedVariables false
namespace Bt
theorem refUnpack_no (a : Option Addr) (len cap : Nat) (W : Int) (hl : len ≤ 9223372036854775807) (h : rowE len W ≠ 0) (w : World) :
    Calls Tryz.prog 161 #[.slice a len cap, .int .i64 W] w fun e w' => e = .returned (.tuple #[.slice none 0 0, .int .i64 (rowE len W)]) ∧ w = w' := by
  obtain ⟨n, hn⟩ : ∃ n, bytesV W = n := ⟨_, rfl⟩
  have HN := Lib.hid hn
  unfold rowE at h ⊢
  rw [hn] at h ⊢
  clear hn
  by_cases h0 : n = 0
  · have h0b : (n == 0) = true := by simpa using h0
    have X := Lib.hid (show (1 : Int) = (if n = 0 then 1 else if (len : Int) < n then 6 else 0) by rw [if_pos h0])
    rw [← X.out]
    clear h
    go_enter Tryz.func161, Tryz.ntmps161
    go_wp2_with (first | (go_at_call 183; refine (refBytes_any _ _).mono ?_; rw [HN.out]; rintro e w1 ⟨rfl, rfl⟩))
    go_ret2
    exact ⟨rfl, rfl⟩
  · have h0b : (n == 0) = false := by simpa using h0
    by_cases h1 : (len : Int) < n
    · have X := Lib.hid (show (6 : Int) = (if n = 0 then 1 else if (len : Int) < n then 6 else 0) by rw [if_neg h0, if_pos h1])
      rw [← X.out]
      clear h
      go_enter Tryz.func161, Tryz.ntmps161
      go_wp2_with (first | (go_at_call 183; refine (refBytes_any _ _).mono ?_; rw [HN.out]; rintro e w1 ⟨rfl, rfl⟩))
      go_ret2
      exact ⟨rfl, rfl⟩
    · rw [if_neg h0, if_neg h1] at h
      exact absurd rfl h
theorem bitV_nat {zs : List Int} {i : Nat} (h : i < 8 * zs.length) : bitV zs i = (bitsOf zs).getD i 0 := by
  unfold bitV
  rw [if_neg (by omega), if_neg (by omega)]; rfl
theorem take_push (l : List Int) (k : Nat) (h : k < l.length) : (l.take k).map (Value.int .i64) ++ [.int .i64 (l.getD k 0)] = (l.take (k + 1)).map (Value.int .i64) := by
  rw [← take_next l k h]; simp
set_option maxRecDepth 100000 in
set_option maxHeartbeats 2000000 in
theorem refUnpack_yes (a : Option Addr) (len cap : Nat) (zs : List Int) (n W : Nat) (w : World) (h : Bs w a len cap zs) (hn : bytesV W = n) (h1 : 1 ≤ n) (h2 : n ≤ len) (hn2 : n ≤ 4096) (hW1 : W ≤ 8 * n) :
    Calls Tryz.prog 161 #[.slice a len cap, .int .i64 W] w (UnpR ((bitsOf zs).take W) 0 w) := by
  obtain ⟨i0, hi, hz0, hz1, hz2⟩ := info_parts Tryz.info_int
  have hl : zs.length = len := h.1.1
  have hl9 : len ≤ 9223372036854775807 := by have := h.2; omega
  have HN := Lib.hid hn; clear hn
  have h0b : ((n : Int) == 0) = false := by simp; omega
  have h3 : ¬ (len : Int) < n := by omega
  have h4 : ¬ len < n := by omega
  have W0 : (0 : Int) ≤ W := Int.natCast_nonneg _
  obtain ⟨xs, hxs⟩ : ∃ xs, (bitsOf zs).take W = xs := ⟨_, rfl⟩
  have hxl : xs.length = W := by rw [← hxs, List.length_take, bitsOf_len]; omega
  have hget : ∀ k, k < W → bitV zs k = xs.getD k 0 := fun k hk => by
    rw [bitV_nat (by omega), ← hxs, List.getD_eq_getElem?_getD, List.getD_eq_getElem?_getD, List.getElem?_take_of_lt hk]
  have HB := Lib.hid h; clear h
  have HG := Lib.hid hget; clear hget
  have HL := Lib.hid hxl; clear hxl
  rw [hxs]
  have HZ := Lib.hid hl; clear hl hxs
  go_enter Tryz.func161, Tryz.ntmps161
  go_wp2_with (first | (go_at_call 183; refine (refBytes_any _ _).mono ?_; rw [HN.out]; rintro e w1 ⟨rfl, rfl⟩))
  go_loopg [7, 8] W (fun g s7 s8 wr => ∃ k : Nat, k + g = W ∧ s8 = .int .i64 k ∧ wr.ownsRow w.heap.size 3 1 s7 k ((xs.take k).map (Value.int .i64)) ∧ Below w.heap.size w wr)
  case atStart => exact ⟨0, by omega, rfl, World.ownsRow_nil _ _ _ _, Below.refl _ _⟩
  case round =>
    obtain ⟨k, hk, rfl, hrow, hB⟩ := hrel
    cases gk with
    | zero =>
      obtain rfl : k = W := by omega
      obtain ⟨ad, cap', rfl, hown, hcap⟩ := ownK_row (by rw [List.length_take, HL.out]; omega) hrow
      have hrow' := Lib.hid hrow; clear hrow
      go_wp2
      go_ret2
      refine ⟨ad, cap', by rw [HL.out]; rfl, ?_, hB⟩
      have := hrow'.out
      rw [List.take_of_length_le (by rw [HL.out]; omega)] at this
      rw [HL.out]
      exact this
    | succ g =>
      have hlt : (k : Int) < W := by omega
      have k0 : (0 : Int) ≤ k := Int.natCast_nonneg _
      have hW := hB.size
      obtain ⟨x, hx⟩ : ∃ x, xs.getD k 0 = x := ⟨_, rfl⟩
      have hbx : bitV zs k = x := by rw [HG.out k (by omega)]; exact hx
      have hpu := take_push xs k (by rw [HL.out]; omega)
      rw [hx] at hpu
      have HP := Lib.hid hpu
      have HX := Lib.hid hbx
      clear hpu hbx hx
      have HR := Lib.hid hrow; clear hrow
      go_wp2_with (first
        | (go_at_call 184; refine (refBit_any _ _ _ zs _ (by omega) _ (HB.out.below hB)).mono ?_; rw [HX.out]; rintro e w5 ⟨rfl, rfl⟩)
        | (at_builtin; refine wpList_append_own _ rfl _ _ 22 rfl w.heap.size 3 i0 (.int .i64 0) 1 8 Tryz.underlying22 hi hz0 hz1 hz2 rfl (by decide) _ k _ rfl (HR.out.alloc _) ⟨wr.heap.size, 0, none⟩ 1 1 [.int .i64 x] rfl rfl (cell_one_new _ _ _) (by simp [Value.oneCell']) (by unfold maxLen; omega) (by omega) (by simp; omega) ?_; intro v' w4 hown' hgrow _; have HO := Lib.hid hown'; have hB4 := ((hB.alloc hW _).grown hgrow (by simp; omega) (fun j ej => (HR.out.lt j ej).1)); clear hown' hgrow))
      go_roundg g
      case measure => omega
      case rel =>
        have := HO.out
        rw [HP.out] at this
        exact ⟨k + 1, by omega, by go_num, this, hB4⟩
theorem refUnpack_any (a : Option Addr) (len cap : Nat) (zs : List Int) (W : Int) (w : World) (h : Bs w a len cap zs) :
    Calls Tryz.prog 161 #[.slice a len cap, .int .i64 W] w (UnpR (unpackV zs W) (rowE len W) w) := by
  have hl : zs.length = len := h.1.1
  by_cases h0 : rowE len W = 0
  · obtain ⟨N, P, rfl, hN, h1, h2, h3, h4, h5⟩ := bytesV_pos h0
    have := refUnpack_yes a len cap zs N P w h hN h1 h2 h3 h4
    unfold unpackV
    rw [hl, if_pos h0, h0]
    exact this
  · refine (refUnpack_no a len cap W (by have := h.2; omega) h0 w).mono ?_
    rintro e w' ⟨rfl, rfl⟩
    unfold unpackV
    rw [hl, if_neg h0]
    exact ⟨none, 0, rfl, World.ownsRow_nil _ _ _ _, Below.refl _ _⟩
end Bt
end Go.Proofs.YtmnhiagppicegaaGreat

/- What runs in a list, over any memory, of bits and of the document's own answer; numbers made 0 or 1. Condition: numbers fit their kinds. -/
namespace Go.Proofs.YtmnhiagppicegaaGreat
open Go.RowKit Go.Shelf
set_option linter.unusedVariables false
namespace Bt
theorem getD_mem (l : List Int) (k : Nat) (h : k < l.length) : l.getD k 0 ∈ l := by
  rw [List.getD_eq_getElem?_getD, List.getElem?_eq_getElem h]; exact List.getElem_mem _
end Bt
end Go.Proofs.YtmnhiagppicegaaGreat

/- A text as bytes: '[]byte(s)', over any memory; told in one law for the walk. Condition: the text is short. -/
namespace Go.Proofs.YtmnhiagppicegaaGreat
open Go.RowKit
set_option linter.unusedVariables false
theorem Im.bytes_below (w : World) (e : TypeId) (s : ByteArray) : Below w.heap.size w (Lib.bytesWorld w e s) :=
  ⟨by simp [Lib.bytesWorld, World.freeze, World.alloc, World.drew, -World.alloc_eq, -World.drew_eq], by simp [Lib.bytesWorld, World.freeze, World.alloc, World.drew, -World.alloc_eq, -World.drew_eq], by simp [Lib.bytesWorld, World.freeze, World.alloc, World.drew, -World.alloc_eq, -World.drew_eq], by rw [Lib.bytesWorld_size]; omega, fun k hk => Lib.bytesWorld_at_old w e s k hk⟩
theorem Im.bytes_get (s : ByteArray) (i : Nat) : (bytesOf s).getD i 0 = ((s.data.toList.getD i 0).toNat : Int) := by
  unfold bytesOf
  rw [List.getD_eq_getElem?_getD, List.getD_eq_getElem?_getD, List.getElem?_map]
  cases s.data.toList[i]? <;> rfl
end Go.Proofs.YtmnhiagppicegaaGreat

/- When two lists of numbers are the same, by the document's own answer, over any memory. Condition: a length fits an int. -/
namespace Go.Proofs.YtmnhiagppicegaaGreat
open Go.RowKit
set_option linter.unusedVariables false

namespace Sm
def Alike (x y : List Int) (k : Nat) : Prop := ∀ i, i < k → x.getD i 0 = y.getD i 0
theorem alike_all {x y : List Int} {n : Nat} (hx : x.length = n) (hy : y.length = n) (h : Alike x y n) : x = y := by
  refine List.ext_getElem (by rw [hx, hy]) fun i h1 h2 => ?_
  have := h i (by omega)
  rw [List.getD_eq_getElem?_getD, List.getD_eq_getElem?_getD, List.getElem?_eq_getElem h1, List.getElem?_eq_getElem h2] at this
  simpa using this
theorem alike_succ {x y : List Int} {k : Nat} (h : Alike x y k) (e : x.getD k 0 = y.getD k 0) : Alike x y (k + 1) := fun i hi => by
  rcases Nat.lt_or_ge i k with h1 | h1
  · exact h i h1
  · obtain rfl : i = k := by omega
    exact e

end Sm
end Go.Proofs.YtmnhiagppicegaaGreat

/- A row's spare bits, over any memory, of bits and of the document's own answer. Condition: numbers fit their kinds. -/
namespace Go.Proofs.YtmnhiagppicegaaGreat
open Go.RowKit Go.Shelf
set_option linter.unusedVariables false
namespace Bt
theorem num_bound : ∀ (l : List Int) (n : Int), (∀ x ∈ l, x = 0 ∨ x = 1) → 0 ≤ n → 0 ≤ num l n ∧ num l n + 1 ≤ (n + 1) * 2 ^ l.length
  | [], n, _, h => by simp [num, h]
  | x :: l, n, hx, h => by
    have h1 := hx x (by simp)
    have h2 := num_bound l (n * 2 + x) (fun y hy => hx y (by simp [hy])) (by omega)
    refine ⟨h2.1, Int.le_trans h2.2 ?_⟩
    rw [List.length_cons, Int.pow_succ, ← Int.mul_assoc, Int.mul_right_comm]
    exact Int.mul_le_mul_of_nonneg_right (by omega) (by exact Int.pow_nonneg (by omega))
end Bt
end Go.Proofs.YtmnhiagppicegaaGreat

/- Whether all numbers are 0 or 1; a list in parts of eight, handed out one by one: over any memory. Condition: numbers fit their kinds. -/
namespace Go.Proofs.YtmnhiagppicegaaGreat
open Go.RowKit Go.Shelf
attribute [local go_sem] Oper.semAt_some
set_option linter.unusedVariables false
namespace Bt
def oddB (x : Int) : Bool := decide (x ≠ 0) && decide (x ≠ 1)
theorem odd_any (x : Int) (w : World) : Calls Tryz.prog 187 #[.int .i64 x] w fun e w' => e = .returned (.bool (oddB x)) ∧ w = w' := by
  by_cases h0 : x = 0
  · subst h0
    go_enter Tryz.func187, Tryz.ntmps187
    go_wp2
    go_ret
    exact ⟨rfl, rfl⟩
  · by_cases h1 : x = 1
    · subst h1
      go_enter Tryz.func187, Tryz.ntmps187
      go_wp2
      go_ret
      exact ⟨rfl, rfl⟩
    · have k0 : (x != 0) = true := by simpa using h0
      have k1 : (x != 1) = true := by simpa using h1
      have X := Lib.hid (show true = oddB x by simp [oddB, h0, h1])
      rw [← X.out]
      go_enter Tryz.func187, Tryz.ntmps187
      go_wp2
      go_ret
      exact ⟨rfl, rfl⟩
theorem odd_iff (x : Int) : oddB x = false ↔ (x = 0 ∨ x = 1) := by unfold oddB; simp; omega
def IdxR (ok : Bool) (w : World) (e : Ending) (w' : World) : Prop := ∃ r : Int, e = .returned (.int .i64 r) ∧ (0 ≤ r ↔ ok = false) ∧ -1 ≤ r ∧ w = w'
set_option maxRecDepth 100000 in
set_option maxHeartbeats 2000000 in
theorem index_any (a : Option Addr) (n cap : Nat) (l : List Int) (w : World) (hn : n ≤ 9223372036854775807) (h : SlK .i64 w a n l) :
    Calls Tryz.prog 200 #[.slice a n cap, .func (.func 187) #[] #[]] w (IdxR (decide (Ones l)) w) := by
  obtain ⟨hl, hs⟩ := h
  have HL := Lib.hid hl; clear hl
  have HS := Lib.hid hs; clear hs
  go_enter Tryz.func200, Tryz.ntmps200
  go_wp2
  go_loopg [8] n (fun g s8 wr => ∃ k : Nat, k + g = n ∧ s8 = .int .i64 k ∧ Hid (Ones (l.take k)) ∧ wr = w)
  case atStart => exact ⟨0, by omega, rfl, Lib.hid (by intro x hx; simp at hx), rfl⟩
  case round =>
    obtain ⟨k, hk, rfl, ho, rfl⟩ := hrel
    cases gk with
    | zero =>
      obtain rfl : k = n := by omega
      have X := Lib.hid (show decide (Ones l) = true by rw [decide_eq_true_iff]; have := ho.out; rwa [List.take_of_length_le (by rw [HL.out]; omega)] at this)
      clear ho
      go_wp2
      go_ret
      exact ⟨-1, rfl, by rw [X.out]; simp, by omega, rfl⟩
    | succ g =>
      have hlt : (k : Int) < n := by omega
      have k0 : (0 : Int) ≤ k := Int.natCast_nonneg _
      rcases HS.out with h0 | ⟨b, o, rfl, hc⟩
      · omega
      have hc := hc k (by omega)
      obtain ⟨x, hx⟩ : ∃ x, l.getD k 0 = x := ⟨_, rfl⟩
      rw [hx] at hc
      have HX := Lib.hid hx; clear hx
      cases hq : oddB x
      · have HQ := Lib.hid hq; clear hq
        go_wp2_with (go_at_call 187; refine (odd_any _ _).mono ?_; rw [HQ.out]; rintro e w1 ⟨rfl, rfl⟩)
        go_roundg g
        case measure => omega
        case rel =>
          refine ⟨k + 1, by omega, by go_num, Lib.hid ?_, rfl⟩
          rw [← take_next l k (by rw [HL.out]; omega), HX.out]
          intro y hy
          rcases List.mem_append.1 hy with hy | hy
          · exact ho.out y hy
          · obtain rfl : y = x := by simpa using hy
            exact (odd_iff y).1 HQ.out
      · have HQ := Lib.hid hq; clear hq
        have X := Lib.hid (show decide (Ones l) = false by
          rw [decide_eq_false_iff_not]; intro e
          have := (odd_iff x).2 (e x (by rw [← HX.out, List.getD_eq_getElem?_getD, List.getElem?_eq_getElem (by rw [HL.out]; omega)]; exact List.getElem_mem _))
          rw [HQ.out] at this; cases this)
        go_wp2_with (go_at_call 187; refine (odd_any _ _).mono ?_; rw [HQ.out]; rintro e w1 ⟨rfl, rfl⟩)
        go_ret
        exact ⟨k, rfl, by rw [X.out]; simp, by omega, rfl⟩
theorem contains_any (a : Option Addr) (n cap : Nat) (l : List Int) (w : World) (hn : n ≤ 9223372036854775807) (h : SlK .i64 w a n l) :
    Calls Tryz.prog 189 #[.slice a n cap, .func (.func 187) #[] #[]] w fun e w' => e = .returned (.bool (!decide (Ones l))) ∧ w = w' := by
  have H := Lib.hid (index_any a n cap l w hn h)
  clear h
  cases ho : decide (Ones l)
  · rw [ho] at H
    go_enter Tryz.func189, Tryz.ntmps189
    go_wp2_with (go_at_call 200; refine H.out.mono ?_; rintro e w1 ⟨r, rfl, hr, h1, rfl⟩; replace hr := hr.2 rfl)
    go_ret
    exact ⟨rfl, rfl⟩
  · rw [ho] at H
    go_enter Tryz.func189, Tryz.ntmps189
    go_wp2_with (go_at_call 200; refine H.out.mono ?_; rintro e w1 ⟨r, rfl, hr, h1, rfl⟩; obtain rfl : r = -1 := (by by_cases h : 0 ≤ r; (have := hr.1 h; cases this); omega); clear hr)
    go_ret
    exact ⟨rfl, rfl⟩
def MadeC (v : Value) (w : World) (e : Ending) (w' : World) : Prop :=
  ∃ nb bb, e = .returned (.func (.func 201) #[] #[.pointer (some ⟨nb, 0, none⟩), .pointer (some ⟨bb, 0, none⟩)]) ∧ nb ≠ bb ∧ w.heap.size ≤ nb ∧ w.heap.size ≤ bb ∧
    w'.cell? ⟨nb, 0, none⟩ = some v ∧ w'.cell? ⟨bb, 0, none⟩ = some (.int .i64 8) ∧ Below w.heap.size w w'
theorem chunk_made (a : Option Addr) (len cap : Nat) (w : World) : Calls Tryz.prog 190 #[.slice a len cap, .int .i64 8] w (MadeC (.slice a len cap) w) := by
  go_enter Tryz.func190, Tryz.ntmps190
  go_wp2
  go_ret
  exact ⟨_, _, rfl, by omega, by omega, by omega, by simp [go_sem], by simp [go_sem], by go_grown⟩
/-- a part: the k-th eight of n numbers -/
def partLen (n k : Nat) : Nat := min 8 (n - 8 * k)
def encC (b o n : Nat) (k : Nat) : Array Value := #[.slice (some ⟨b, o + 8 * k, none⟩) (partLen n k) (partLen n k)]
theorem rng_get (m k : Nat) (h : k < m) : List.range m = (List.range m).take k ++ k :: (List.range m).drop (k + 1) := by
  conv => lhs; rw [← List.take_append_drop k (List.range m), List.drop_eq_getElem_cons (by simpa using h)]
  simp
theorem rng_next (m k : Nat) (h : k < m) : (List.range m).take k ++ [k] = (List.range m).take (k + 1) := by
  rw [List.take_succ_eq_append_getElem (by simpa using h)]; simp
set_option maxRecDepth 100000 in
set_option maxHeartbeats 2000000 in
theorem chunk_gives (n m cap b o nb bb : Nat) (hn : 1 ≤ n) (hm1 : n ≤ 8 * m) (hm2 : 8 * m < n + 8) (hnc : n ≤ cap) (hc : cap ≤ 9223372036854775807) (h9 : n ≤ 4096) (hne : nb ≠ bb) (W0 : World) (q : Nat) (hq : 1 ≤ q)
    (cn : W0.cell? ⟨nb, 0, none⟩ = some (.slice (some ⟨b, o, none⟩) n cap)) (cb : W0.cell? ⟨bb, 0, none⟩ = some (.int .i64 8)) :
    Gives Fence.wide q Tryz.prog 201 #[.pointer (some ⟨nb, 0, none⟩), .pointer (some ⟨bb, 0, none⟩)] (encC b o n) (fun k => k = nb ∨ k = bb) (List.range m) W0 := by
  intro l J Jx W hW hJ hJx hY h00
  have cn1 := hW.cell (.inl rfl) cn
  have cb1 := hW.cell (.inr rfl) cb
  clear cn cb hW
  have HY := Lib.hid hY; clear hY
  refine callsIn_of_wp Tryz.func201 rfl trivial ?_ rfl
  simp only [Tryz.ntmps201, List.size_toArray, List.length_cons, List.length_nil, Nat.reduceAdd, Nat.reduceSub, Array.replicate_succ, Array.replicate_zero, List.push_toArray, List.append_toArray, List.nil_append, List.cons_append]
  gi_wp2
  gi_loopw [4] (fun i wr => ∃ k : Nat, k ≤ m ∧ i = .int .i64 (8 * (k : Int)) ∧ J ((List.range m).take k) wr ∧ wr.cell? ⟨nb, 0, none⟩ = some (.slice (some ⟨b, o, none⟩) n cap) ∧ wr.cell? ⟨bb, 0, none⟩ = some (.int .i64 8)) (fun i _ => (8 * (m : Int) - intOf i).toNat)
  case atStart => exact ⟨0, Nat.zero_le _, rfl, by simpa using h00, cn1, cb1⟩
  case round =>
    obtain ⟨k, hk, rfl, hj, c1, c2⟩ := hrel
    clear cn1 cb1 h00
    by_cases hlt : k < m
    · have hi0 : 8 * (k : Int) < n := by omega
      have hi1 : (0 : Int) ≤ k := Int.natCast_nonneg _
      have hi2 : (k : Int) ≤ 512 := by omega
      obtain ⟨I, hI⟩ : ∃ I : Nat, 8 * k = I := ⟨_, rfl⟩
      have hI2 : 8 * (k : Int) = (I : Int) := by omega
      rw [hI2] at hi0 ⊢
      have hic : ¬ cap = I := by omega
      have hi3 : (0 : Int) ≤ I := Int.natCast_nonneg _
      have HI := Lib.hid hI; have HI2 := Lib.hid hI2
      by_cases h8 : I + 8 ≤ n
      · skip
        have hpl : partLen n k = 8 := by unfold partLen; omega
        have hy0 := HY.out _ _ _ wr.drew (rng_get m k hlt) (hJ _ _ _ hj (.drew _ _))
        have HNX := Lib.hid (rng_next m k hlt)
        rw [show encC b o n k = #[.slice (some ⟨b, o + I, none⟩) 8 8] by unfold encC; rw [hpl, hI]] at hy0
        obtain ⟨fn, tmps, assign, body, hy, hR⟩ := hy0
        have d1 : wr.drew.cell? ⟨nb, 0, none⟩ = some (.slice (some ⟨b, o, none⟩) n cap) := c1
        have d2 : wr.drew.cell? ⟨bb, 0, none⟩ = some (.int .i64 8) := c2
        clear hpl hI hI2
        have hmn : min (8 : Int) ((n - I : Nat) : Int) = 8 := by omega
        gi_wp2
        gi_region
        gi_wp2
        refine hR.mono ?_
        rintro e W3 ⟨hh, (⟨rfl, hJ3⟩ | ⟨rfl, hJx3⟩)⟩
        · have c13 := hh.cell (.inl rfl) d1
          have c23 := hh.cell (.inr rfl) d2
          clear hR hy c1 c2 d1 d2
          gi_wp2
          go_roundw
          case rel => exact ⟨k + 1, by omega, by have := HI2.out; go_num, by rw [← HNX.out]; exact hJ3, c13, c23⟩
          case measure => have := HI2.out; simp [intOf]; omega
        · gi_wp2
          refine bodyPost_ret (results_none rfl _ _ _) rfl ?_
          exact ⟨⟨_, rfl⟩, .inr ⟨_, by rw [HNX.out]; exact List.take_prefix _ _, hJx3⟩⟩
      · obtain ⟨p, hp⟩ : ∃ p, n - I = p := ⟨_, rfl⟩
        have p1 : 1 ≤ p := by omega
        have p8 : p < 8 := by omega
        have hpl : partLen n k = p := by unfold partLen; omega
        have hy0 := HY.out _ _ _ wr.drew (rng_get m k hlt) (hJ _ _ _ hj (.drew _ _))
        have HNX := Lib.hid (rng_next m k hlt)
        rw [show encC b o n k = #[.slice (some ⟨b, o + I, none⟩) p p] by unfold encC; rw [hpl, hI]] at hy0
        obtain ⟨fn, tmps, assign, body, hy, hR⟩ := hy0
        have d1 : wr.drew.cell? ⟨nb, 0, none⟩ = some (.slice (some ⟨b, o, none⟩) n cap) := c1
        have d2 : wr.drew.cell? ⟨bb, 0, none⟩ = some (.int .i64 8) := c2
        clear hpl hI hI2
        have hmn : min (8 : Int) ((n - I : Nat) : Int) = (p : Int) := by omega
        have hmn2 : min (8 : Int) (p : Int) = (p : Int) := by omega
        gi_wp2
        gi_region
        gi_wp2
        refine hR.mono ?_
        rintro e W3 ⟨hh, (⟨rfl, hJ3⟩ | ⟨rfl, hJx3⟩)⟩
        · have c13 := hh.cell (.inl rfl) d1
          have c23 := hh.cell (.inr rfl) d2
          clear hR hy c1 c2 d1 d2
          gi_wp2
          go_roundw
          case rel => exact ⟨k + 1, by omega, by have := HI2.out; go_num, by rw [← HNX.out]; exact hJ3, c13, c23⟩
          case measure => have := HI2.out; simp [intOf]; omega
        · gi_wp2
          refine bodyPost_ret (results_none rfl _ _ _) rfl ?_
          exact ⟨⟨_, rfl⟩, .inr ⟨_, by rw [HNX.out]; exact List.take_prefix _ _, hJx3⟩⟩
    · obtain rfl : k = m := by omega
      have hi0 : ¬ 8 * (k : Int) < n := by omega
      gi_wp2
      go_end0
      exact ⟨⟨_, rfl⟩, .inl (by rw [List.take_of_length_le (by simp)] at hj; exact hj)⟩
end Bt
end Go.Proofs.YtmnhiagppicegaaGreat

/- The byte of eight bits, over any memory. Condition: bits are 0 or 1. -/
namespace Go.Proofs.YtmnhiagppicegaaGreat
open Go.RowKit
set_option linter.unusedVariables false
namespace Bt
theorem or1 (n x : Int) (h : 0 ≤ n) (h2 : n ≤ 127) (a : 0 ≤ x) (b : x ≤ 1) : Go.bits BinOp.or IntKind.u8 (n * 2) x = n * 2 + x := by
  obtain ⟨n, rfl⟩ : ∃ m : Nat, n = m := ⟨n.toNat, by omega⟩
  obtain ⟨x, rfl⟩ : ∃ m : Nat, x = m := ⟨x.toNat, by omega⟩
  have := u8_or_nat (n * 2) x (by omega) (by omega)
  rw [Int.natCast_mul] at this
  rw [show ((2 : Nat) : Int) = 2 from rfl] at this
  rw [this]
  have e : n * 2 ||| x = n * 2 + x := by
    rw [show n * 2 = 2 ^ 1 * n by omega]
    exact (Nat.two_pow_add_eq_or_of_lt (i := 1) (by omega) n).symm
  rw [e]; omega
set_option maxRecDepth 100000 in
theorem join_any (x7 x6 x5 x4 x3 x2 x1 x0 : Int) (a7 : 0 ≤ x7) (b7 : x7 ≤ 1) (a6 : 0 ≤ x6) (b6 : x6 ≤ 1) (a5 : 0 ≤ x5) (b5 : x5 ≤ 1) (a4 : 0 ≤ x4) (b4 : x4 ≤ 1) (a3 : 0 ≤ x3) (b3 : x3 ≤ 1) (a2 : 0 ≤ x2) (b2 : x2 ≤ 1) (a1 : 0 ≤ x1) (b1 : x1 ≤ 1) (a0 : 0 ≤ x0) (b0 : x0 ≤ 1) (w : World) :
    Calls Tryz.prog 191 #[.agg #[.int .i64 x7, .int .i64 x6, .int .i64 x5, .int .i64 x4, .int .i64 x3, .int .i64 x2, .int .i64 x1, .int .i64 x0]] w fun e w' => e = .returned (.int .u8 (num [x7, x6, x5, x4, x3, x2, x1, x0] 0)) ∧ Below w.heap.size w w' := by
  have N : ∀ n m x : Int, 0 ≤ n → n ≤ m → 0 ≤ x → x ≤ 1 → m ≤ 127 → ∃ r, Go.bits BinOp.or IntKind.u8 (n * 2) x = r ∧ 0 ≤ r ∧ r ≤ m * 2 + 1 ∧ Hid (n * 2 + x = r) := fun n m x h k a b c => ⟨n * 2 + x, or1 n x h (by omega) a b, by omega, by omega, Lib.hid rfl⟩
  have i0 : ∀ w, (Instr.index 265 (.agg #[.int .i64 x7, .int .i64 x6, .int .i64 x5, .int .i64 x4, .int .i64 x3, .int .i64 x2, .int .i64 x1, .int .i64 x0]) (.int .i64 0)).run Tryz.prog w = .ok (.int .i64 x7) w := fun _ => by kernel_rfl
  have i1 : ∀ w, (Instr.index 265 (.agg #[.int .i64 x7, .int .i64 x6, .int .i64 x5, .int .i64 x4, .int .i64 x3, .int .i64 x2, .int .i64 x1, .int .i64 x0]) (.int .i64 1)).run Tryz.prog w = .ok (.int .i64 x6) w := fun _ => by kernel_rfl
  have i2 : ∀ w, (Instr.index 265 (.agg #[.int .i64 x7, .int .i64 x6, .int .i64 x5, .int .i64 x4, .int .i64 x3, .int .i64 x2, .int .i64 x1, .int .i64 x0]) (.int .i64 2)).run Tryz.prog w = .ok (.int .i64 x5) w := fun _ => by kernel_rfl
  have i3 : ∀ w, (Instr.index 265 (.agg #[.int .i64 x7, .int .i64 x6, .int .i64 x5, .int .i64 x4, .int .i64 x3, .int .i64 x2, .int .i64 x1, .int .i64 x0]) (.int .i64 3)).run Tryz.prog w = .ok (.int .i64 x4) w := fun _ => by kernel_rfl
  have i4 : ∀ w, (Instr.index 265 (.agg #[.int .i64 x7, .int .i64 x6, .int .i64 x5, .int .i64 x4, .int .i64 x3, .int .i64 x2, .int .i64 x1, .int .i64 x0]) (.int .i64 4)).run Tryz.prog w = .ok (.int .i64 x3) w := fun _ => by kernel_rfl
  have i5 : ∀ w, (Instr.index 265 (.agg #[.int .i64 x7, .int .i64 x6, .int .i64 x5, .int .i64 x4, .int .i64 x3, .int .i64 x2, .int .i64 x1, .int .i64 x0]) (.int .i64 5)).run Tryz.prog w = .ok (.int .i64 x2) w := fun _ => by kernel_rfl
  have i6 : ∀ w, (Instr.index 265 (.agg #[.int .i64 x7, .int .i64 x6, .int .i64 x5, .int .i64 x4, .int .i64 x3, .int .i64 x2, .int .i64 x1, .int .i64 x0]) (.int .i64 6)).run Tryz.prog w = .ok (.int .i64 x1) w := fun _ => by kernel_rfl
  have i7 : ∀ w, (Instr.index 265 (.agg #[.int .i64 x7, .int .i64 x6, .int .i64 x5, .int .i64 x4, .int .i64 x3, .int .i64 x2, .int .i64 x1, .int .i64 x0]) (.int .i64 7)).run Tryz.prog w = .ok (.int .i64 x0) w := fun _ => by kernel_rfl
  obtain ⟨n1, e1, l1, u1, H1⟩ := N 0 0 x7 (by omega) (by omega) a7 b7 (by omega)
  rw [Int.zero_mul] at e1
  obtain ⟨n2, e2, l2, u2, H2⟩ := N n1 1 x6 (by omega) (by omega) a6 b6 (by omega)
  obtain ⟨n3, e3, l3, u3, H3⟩ := N n2 3 x5 (by omega) (by omega) a5 b5 (by omega)
  obtain ⟨n4, e4, l4, u4, H4⟩ := N n3 7 x4 (by omega) (by omega) a4 b4 (by omega)
  obtain ⟨n5, e5, l5, u5, H5⟩ := N n4 15 x3 (by omega) (by omega) a3 b3 (by omega)
  obtain ⟨n6, e6, l6, u6, H6⟩ := N n5 31 x2 (by omega) (by omega) a2 b2 (by omega)
  obtain ⟨n7, e7, l7, u7, H7⟩ := N n6 63 x1 (by omega) (by omega) a1 b1 (by omega)
  obtain ⟨n8, e8, l8, u8, H8⟩ := N n7 127 x0 (by omega) (by omega) a0 b0 (by omega)
  have X := Lib.hid (show n8 = num [x7, x6, x5, x4, x3, x2, x1, x0] 0 by simp only [num]; rw [H1.out, H2.out, H3.out, H4.out, H5.out, H6.out, H7.out, H8.out])
  clear N
  go_enter Tryz.func191, Tryz.ntmps191
  go_wp2
  go_rounds 9
  go_ret
  exact ⟨ret_i X.out, by go_grown⟩
end Bt
end Go.Proofs.YtmnhiagppicegaaGreat

/- A row of bits packed, over any memory, of bits. Condition: numbers fit their kinds. -/
namespace Go.Proofs.YtmnhiagppicegaaGreat
open Go.RowKit Go.Shelf
attribute [local go_sem] Oper.semAt_some
set_option linter.unusedVariables false
/-- 'copy' into a row that is known whole, in a round. -/
theorem wpListIn_copy_row {F : Fence} {n : Nat} {P : Program} {w : World} {ops : Array Oper} {rest : List Oper} {o : Oper} {a : Act} {Q : Exit → Act → World → Prop} (hgd : o.guard = none) (d s : Operand) (dT sT : TypeId)
    (ho : o.op = .call { callee := .builtin .copy, args := #[d, s], argTypes := #[dT, sT] }) (elem : TypeId) (hu : P.underlying dT = some (.slice elem)) (hsz : (P.info? elem).map (·.size) = some 1)
    (g off dLen dCap : Nat) (ad : Addr) (sLen sCap : Nat) (hd : a.eval d = .slice (some ⟨g, off, none⟩) dLen dCap) (hs : a.eval s = .slice (some ad) sLen sCap)
    (cur : Array Value) (t : TypeId) (hg : w.heap[g]? = some (.cells cur t (0, 0))) (cs : List Value) (hn : cs.length = Nat.min sLen dLen)
    (hsrc : ∀ j v, cs[j]? = some v → w.cell? (ad.add j) = some v) (hfit : off + cs.length ≤ cur.size) (h1 : ∀ v ∈ cs, v.oneCell' = true)
    (h : ∀ v9, wpListIn F n P ops Q rest (a.put o.dst v9) (w.setRow g (cur.toList.take off ++ cs ++ cur.toList.drop (off + cs.length)).toArray)) : wpListIn F n P ops Q (o :: rest) a w := by
  refine wpListIn_plain hgd fun K hK => ?_
  have hrun := run_copy_row (P := P) w dT sT o.type elem g off dLen dCap ad sLen sCap cur t cs hu hsz hg hn hsrc hfit h1
  unfold Oper.wpIn
  refine ⟨?_, ?_⟩
  · simp [Oper.about, ho, resolve, Target.leads, Sem.run_pure]
  · rw [Oper.semAt_plain F _ _ (by rw [ho]; intro c hc'; cases hc')]
    simp [execOp, ho, resolve, invoke, builtin, hd, hs, hrun, Result.andThen]
    exact hK _ _ (by simpa using h (goInt cs.length))
namespace Bt
theorem pack_len0 (l : List Int) : packOk l = false ↔ (bytesV l.length = 0 ∨ decide (Ones l) = false) := by
  unfold packOk bytesV
  by_cases h : Ones l
  · simp [h]; omega
  · simp [h]
set_option maxRecDepth 100000 in
theorem pack_no (a : Option Addr) (n cap : Nat) (l : List Int) (w : World) (hn : n ≤ 9223372036854775807) (h : SlK .i64 w a n l) (hp : packOk l = false) :
    Calls Tryz.prog 171 #[.slice a n cap] w fun e w' => e = .returned (.tuple #[.slice none 0 0, .int .i64 1]) ∧ w = w' := by
  have hl : l.length = n := h.1
  have HC := Lib.hid (contains_any a n cap l w hn h)
  clear h
  rw [pack_len0, hl] at hp
  by_cases h0 : bytesV n = 0
  · have HN := Lib.hid h0
    clear hp h0
    refine calls_of_marks Tryz.func171 rfl ?_
    simp only [Tryz.ntmps171, List.size_toArray, List.length_cons, List.length_nil, Nat.reduceAdd, Nat.reduceSub, Array.replicate_succ, Array.replicate_zero, List.push_toArray, List.append_toArray, List.nil_append, List.cons_append]
    go_wp2_with (go_at_call 188; refine (bytes_any _ _).mono ?_; rw [HN.out]; rintro e w1 ⟨rfl, rfl⟩)
    exact ⟨_, results_tmp2 rfl _ _ _, rfl, rfl⟩
  · obtain ⟨r, hr⟩ : ∃ r, bytesV n = r := ⟨_, rfl⟩
    rw [hr] at h0 hp
    have hrb : (r == 0) = false := by simpa using h0
    have HN := Lib.hid hr
    have HO := Lib.hid (hp.resolve_left h0)
    clear hp h0 hr
    refine calls_of_marks Tryz.func171 rfl ?_
    simp only [Tryz.ntmps171, List.size_toArray, List.length_cons, List.length_nil, Nat.reduceAdd, Nat.reduceSub, Array.replicate_succ, Array.replicate_zero, List.push_toArray, List.append_toArray, List.nil_append, List.cons_append]
    go_wp2_with (first
      | (go_at_call 188; refine (bytes_any _ _).mono ?_; rw [HN.out]; rintro e w1 ⟨rfl, rfl⟩)
      | (go_at_call 189; refine HC.out.mono ?_; rw [HO.out]; rintro e w1 ⟨rfl, rfl⟩))
    exact ⟨_, results_tmp2 rfl _ _ _, rfl, rfl⟩
theorem ownsRow_room {A : World} {base n cap g k : Nat} {e : TypeId} {xs : List Value} (h : A.ownsRow base e 1 (.slice (some ⟨g, 0, none⟩) n cap) n xs) (hk : k < cap) : ∃ v, A.cell? ⟨g, k, none⟩ = some v ∧ A.frozen? ⟨g, k, none⟩ = false := by
  rcases h.2 with ⟨h2, _⟩ | ⟨g', cap', cur, h2, hg, hc, _, _, hs, _⟩
  · cases h2
  · cases h2
    exact ⟨cur[k]'(by omega), by simp [World.cell?, hc, Array.getElem?_eq_getElem (show k < cur.size by omega)], by simp [World.frozen?, hc]⟩
theorem ownsRow_push {A : World} {base n cap g : Nat} {e : TypeId} {xs : List Value} (h : A.ownsRow base e 1 (.slice (some ⟨g, 0, none⟩) n cap) n xs) (hn : n < cap) (v : Value) :
    (A.setCell ⟨g, n, none⟩ v).ownsRow base e 1 (.slice (some ⟨g, 0, none⟩) (n + 1) cap) (n + 1) (xs ++ [v]) := by
  obtain ⟨h1, h2⟩ := h
  rcases h2 with ⟨h2, _⟩ | ⟨g', cap', cur, h2, hg, hc, hle, hm, hs, ht⟩
  · cases h2
  · cases h2
    refine ⟨by simp at h1 ⊢; exact h1, .inr ⟨g, cap, cur.setIfInBounds n v, rfl, hg, ?_, hn, hm, by simpa using hs, ?_⟩⟩
    · rw [setCell_eq_setRow A g n cur e (0, 0) v hc]; exact setRow_heap _ _ _ _ _ _ hc
    · have hlt : n < cur.toList.length := by simp; omega
      simp only [Nat.mul_one, Array.toList_setIfInBounds] at ht ⊢
      rw [List.take_succ_eq_append_getElem (by simpa using hlt), List.getElem_set_self, List.take_set_of_le (Nat.le_refl _), ht]
theorem pad_cells (pt : List Int) (h : pt.length ≤ 8) : pt.map (Value.int .i64) ++ List.drop pt.length [Value.int .i64 0, Value.int .i64 0, Value.int .i64 0, Value.int .i64 0, Value.int .i64 0, Value.int .i64 0, Value.int .i64 0, Value.int .i64 0] = (pad pt).map (Value.int .i64) := by
  rw [show [Value.int .i64 0, Value.int .i64 0, Value.int .i64 0, Value.int .i64 0, Value.int .i64 0, Value.int .i64 0, Value.int .i64 0, Value.int .i64 0] = List.replicate 8 (Value.int .i64 0) from rfl, List.drop_replicate, pad]
  simp
theorem list8 (l : List Int) (h : l.length = 8) : ∃ a b c d e f g i, l = [a, b, c, d, e, f, g, i] := by
  match l, h with
  | [a, b, c, d, e, f, g, i], _ => exact ⟨a, b, c, d, e, f, g, i, rfl⟩
theorem pad_01 {pt : List Int} (h : Ones pt) : Ones (pad pt) := by
  intro x hx
  rcases List.mem_append.1 hx with hx | hx
  · exact h x hx
  · exact .inl (List.eq_of_mem_replicate hx)
theorem range_mid {m k : Nat} {pre rest : List Nat} (h : List.range m = pre ++ k :: rest) : k = pre.length ∧ pre.length < m := by
  have h1 : pre.length < m := by have := congrArg List.length h; simp at this; omega
  have h2 : (List.range m)[pre.length]? = some k := by rw [h]; simp
  rw [List.getElem?_range h1] at h2
  exact ⟨(Option.some.inj h2).symm, h1⟩
def PackR (l : List Int) (w : World) (e : Ending) (w' : World) : Prop :=
  ∃ ad cap, e = .returned (.tuple #[.slice ad (packV l).length cap, .int .i64 (packE l)]) ∧ w'.ownsRow w.heap.size 5 1 (.slice ad (packV l).length cap) (packV l).length ((packV l).map (Value.int .u8)) ∧ Below w.heap.size w w'
theorem Tryz.info_byt : (Tryz.prog.info? 5).map (fun i => (i.zero, i.size, i.bytes)) = some (some (.int .u8 0), 1, 1) := by kernel_rfl
theorem packB_len : ∀ (m : Nat) (l : List Int), l.length ≤ 8 * m → 8 * m < l.length + 8 → (packB l).length = m
  | 0, l, h, _ => by
    have : l = [] := List.eq_nil_of_length_eq_zero (by omega)
    rw [this, packB_nil]; rfl
  | m + 1, l, h, k => by
    rw [packB_more (by intro e; subst e; simp at k; omega), List.length_cons, packB_len m (l.drop 8) (by simp; omega) (by simp; omega)]
theorem packB_get : ∀ (k : Nat) (l : List Int), 8 * k < l.length → (packB l).getD k 0 = num (pad ((l.drop (8 * k)).take 8)) 0
  | 0, l, h => by rw [packB_more (by intro e; subst e; simp at h)]; simp
  | k + 1, l, h => by
    rw [packB_more (by intro e; subst e; simp at h), List.getD_cons_succ, packB_get k (l.drop 8) (by simp; omega), List.drop_drop]
    rw [show 8 + 8 * k = 8 * (k + 1) by omega]
set_option maxRecDepth 100000 in
set_option maxHeartbeats 4000000 in
theorem pack_yes (b o n m cap : Nat) (l : List Int) (w : World) (hnc : n ≤ cap) (hc : cap ≤ 9223372036854775807) (hl : l.length = n) (hcell : ∀ i, i < n → w.cell? ⟨b, o + i, none⟩ = some (.int .i64 (l.getD i 0))) (ho : Ones l) (h1 : 1 ≤ n) (h9 : n ≤ 4096) (hm : bytesV n = m) (hm1 : n ≤ 8 * m) (hm2 : 8 * m < n + 8) :
    Calls Tryz.prog 171 #[.slice (some ⟨b, o, none⟩) n cap] w fun e w' => ∃ ad cap, e = .returned (.tuple #[.slice ad m cap, .int .i64 0]) ∧ w'.ownsRow w.heap.size 5 1 (.slice ad m cap) m ((packB l).map (Value.int .u8)) ∧ Below w.heap.size w w' := by
  obtain ⟨i0, hi, hz0, hz1, hz2⟩ := info_parts Tryz.info_byt
  have HC := Lib.hid (contains_any (some ⟨b, o, none⟩) n cap l w (by omega) ⟨hl, .inr ⟨b, o, rfl, hcell⟩⟩)
  have HO := Lib.hid (show decide (Ones l) = true by rw [decide_eq_true_iff]; exact ho)
  have HN := Lib.hid hm
  have HP := Lib.hid (packB_len m l (by omega) (by omega))
  have HG := Lib.hid (fun k (h : 8 * k < n) => packB_get k l (by omega))
  have HL := Lib.hid hl
  have HS := Lib.hid hcell
  have HB := Lib.hid ho
  have hm0 : ((m : Int) == 0) = false := by simp; omega
  have hbw : b < w.heap.size := block_lt_of_cell (hcell 0 (by omega))
  clear hl hcell ho hm
  refine calls_of_marks Tryz.func171 rfl ?_
  simp only [Tryz.ntmps171, List.size_toArray, List.length_cons, List.length_nil, Nat.reduceAdd, Nat.reduceSub, Array.replicate_succ, Array.replicate_zero, List.push_toArray, List.append_toArray, List.nil_append, List.cons_append]
  go_wp2_with (first
    | (go_at_call 188; refine (bytes_any _ _).mono ?_; rw [HN.out]; rintro e w1 ⟨rfl, rfl⟩)
    | (go_at_call 189; refine HC.out.mono ?_; rw [HO.out]; rintro e w1 ⟨rfl, rfl⟩)
    | (at_make; refine wpList_make_own _ rfl _ _ 43 rfl w.heap.size 5 i0 (.int .u8 0) 1 Tryz.underlying43 hi hz0 hz1 .i64 .i64 (m : Int) m rfl rfl rfl (by rw [hz2]; omega) (by unfold maxLen; omega) (Nat.le_refl _) ?_; intro w1 hown hgrow; have hb1 : Below w.heap.size w w1 := (Below.refl _ w).grown hgrow (Nat.le_refl _) (by simp); have HW := Lib.hid hown; clear hown)
    | (go_at_call 190; refine (chunk_made _ _ _ _).mono ?_; rintro e w2 ⟨nb, bb, rfl, hne, l1, l2, cn, cb, hb⟩))
  simp only [World.size_alloc] at l1 l2
  have hs1 := hb1.size
  have hs2 := hb.size
  have ln : nb < w2.heap.size := block_lt_of_cell cn
  have lb : bb < w2.heap.size := block_lt_of_cell cb
  have hg1 : w.heap.size < w1.heap.size := (ownsRow_blk HW.out).2
  obtain ⟨B, hB⟩ : ∃ B, w1.heap.size = B := ⟨_, rfl⟩
  have hv0 : Boxed w2 B 43 (.slice (some ⟨w.heap.size, 0, none⟩) 0 m) := by rw [← hB]; exact (hb.block _ (by simp)).trans (Boxed.new w1 _ _)
  have hr0 : w2.ownsRow w.heap.size 5 1 (.slice (some ⟨w.heap.size, 0, none⟩) 0 m) 0 [] := ownsRow_same (HW.out.alloc _) (hb.block _ (by simp; omega))
  have hbel : Below w.heap.size w w2 := (hb1.alloc (by omega) _).trans (hb.mono (by simp; omega))
  rw [hB]
  rw [hB] at l1 l2 hg1
  simp only [World.size_alloc, hB] at hs2
  have hzB : ¬ ((B = nb ∨ B = bb) ∨ B = w2.heap.size ∨ B = w2.heap.size + 1) := by omega
  have hzg : ¬ ((w.heap.size = nb ∨ w.heap.size = bb) ∨ w.heap.size = w2.heap.size ∨ w.heap.size = w2.heap.size + 1) := by omega
  have hGV := chunk_gives n m cap b o nb bb h1 hm1 hm2 hnc hc h9 hne w2 2 (by omega) cn cb
  clear hb hB hb1 HW cn cb
  refine range_wp (gf := 201) (lb := #[.pointer (some ⟨nb, 0, none⟩), .pointer (some ⟨bb, 0, none⟩)]) rfl (enters_of Tryz.func201 (by kernel_rfl) rfl)
    hGV (by rintro k (rfl | rfl) <;> assumption) (fun _ => rfl)
    (fun pre W' => Boxed W' B 43 (.slice (some ⟨w.heap.size, 0, none⟩) pre.length m) ∧ W'.ownsRow w.heap.size 5 1 (.slice (some ⟨w.heap.size, 0, none⟩) pre.length m) pre.length (((packB l).take pre.length).map (Value.int .u8)) ∧ Below w.heap.size w W')
    (fun _ _ _ => False) ?hI (fun _ _ _ _ hh _ => hh) ⟨hv0, by simpa using hr0, hbel⟩ ?_ ?assign ?body ?done ?stop
  case hI =>
    rintro p A B' ⟨h1, h2, h4⟩ hs
    refine ⟨boxed_sep h1 hs hzB, ownsRow_same h2 (hs.block _ (ownsRow_blk h2).2 hzg), ?_⟩
    exact h4.trans (hs.below h4.size (by intro k hk; omega))
  case assign =>
    intro l x W K hK
    unfold encC
    gi_wp2
    exact hK
  case body =>
    rintro ll pre k rest W' hx hlt ⟨hv, hrow, hB⟩
    obtain ⟨rfl, hkm⟩ := range_mid hx
    obtain ⟨k, hkk⟩ : ∃ k, pre.length = k := ⟨_, rfl⟩
    rw [hkk] at hv hrow hkm ⊢
    have HK := Lib.hid hkk
    clear hx hkk hv0 hr0
    have hk8 : 8 * k < n := by omega
    obtain ⟨pt, hpt⟩ : ∃ pt, (l.drop (8 * k)).take 8 = pt := ⟨_, rfl⟩
    have hptl : pt.length = partLen n k := by rw [← hpt, List.length_take, List.length_drop, HL.out]; unfold partLen; rfl
    have hptg : ∀ i, i < pt.length → pt.getD i 0 = l.getD (8 * k + i) 0 := fun i hi => by
      have : i < 8 := by rw [hptl] at hi; unfold partLen at hi; omega
      rw [← hpt, List.getD_eq_getElem?_getD, List.getElem?_take_of_lt this, List.getElem?_drop, ← List.getD_eq_getElem?_getD]
    have hpto : Ones pt := fun x hx => HB.out x (List.mem_of_mem_drop (List.mem_of_mem_take (hpt ▸ hx)))
    have hgk := HG.out k hk8
    rw [hpt] at hgk
    have hp1 : 1 ≤ partLen n k := by unfold partLen; omega
    have hp8 : partLen n k ≤ 8 := by unfold partLen; omega
    have hin : 8 * k + partLen n k ≤ n := by unfold partLen; omega
    obtain ⟨p, hpp⟩ : ∃ p, partLen n k = p := ⟨_, rfl⟩
    rw [hpp] at hptl hp1 hp8 hin ⊢
    clear hpt hpp
    have hvc := hv.cell
    have hs5 := hB.size
    have hsrc : ∀ j v, (pt.map (Value.int .i64))[j]? = some v → ∀ W6, Below w.heap.size w W6 → W6.cell? ((⟨b, o + 8 * k, none⟩ : Addr).add j) = some v := fun j v hv W6 hB6 => by
      have hj : j < pt.length := by have := (List.getElem?_eq_some_iff.1 hv).1; simpa using this
      rw [Addr.add_lit, Nat.add_assoc]
      refine cell_later hB6 ?_
      rw [HS.out (8 * k + j) (by omega), ← hptg j hj]
      rw [List.getElem?_map, List.getElem?_eq_getElem hj] at hv
      rw [← hv, List.getD_eq_getElem?_getD, List.getElem?_eq_getElem hj]; rfl
    have HSRC := Lib.hid hsrc
    have HPT := Lib.hid hptl
    clear hsrc hptg hptl
    gi_wp2_with (with_reducible refine wpListIn_copy_row rfl _ _ 22 22 rfl 3 Tryz.underlying22 (by kernel_rfl) W'.heap.size 0 8 8 ⟨b, o + 8 * k, none⟩ p p rfl rfl #[.int .i64 0, .int .i64 0, .int .i64 0, .int .i64 0, .int .i64 0, .int .i64 0, .int .i64 0, .int .i64 0] 265 (World.alloc_heap_new _ _) (pt.map (Value.int .i64)) (by rw [List.length_map, HPT.out]; exact (Nat.min_eq_left hp8).symm) (fun j v hv => HSRC.out j v hv _ (hB.alloc (by omega) _)) (by rw [List.length_map, HPT.out]; simp; omega) (ints_oneCell _ _) ?_; intro v9)
    go_simp
    rw [pad_cells pt (by rw [HPT.out]; exact hp8)]
    have hpd := pad_01 hpto
    obtain ⟨q7, q6, q5, q4, q3, q2, q1, q0, hq⟩ := list8 (pad pt) (pad_len pt (by rw [HPT.out]; exact hp8))
    rw [hq] at hpd hgk ⊢
    have f7 := hpd q7 (by simp)
    have f6 := hpd q6 (by simp)
    have f5 := hpd q5 (by simp)
    have f4 := hpd q4 (by simp)
    have f3 := hpd q3 (by simp)
    have f2 := hpd q2 (by simp)
    have f1 := hpd q1 (by simp)
    have f0 := hpd q0 (by simp)
    simp only [List.map_cons, List.map_nil]
    obtain ⟨E, hE⟩ : ∃ E, W'.heap.size = E := ⟨_, rfl⟩
    obtain ⟨W6, hW6⟩ : ∃ W6, (W'.alloc (.cells #[.int .i64 0, .int .i64 0, .int .i64 0, .int .i64 0, .int .i64 0, .int .i64 0, .int .i64 0, .int .i64 0] 265)).setRow W'.heap.size #[.int .i64 q7, .int .i64 q6, .int .i64 q5, .int .i64 q4, .int .i64 q3, .int .i64 q2, .int .i64 q1, .int .i64 q0] = W6 := ⟨_, rfl⟩
    have hq6 : W6.heap[E]? = some (.cells #[.int .i64 q7, .int .i64 q6, .int .i64 q5, .int .i64 q4, .int .i64 q3, .int .i64 q2, .int .i64 q1, .int .i64 q0] 265 (0, 0)) := by
      rw [← hW6, ← hE]; exact setRow_heap _ _ _ _ _ _ (World.alloc_heap_new _ _)
    have hb6 : Below W'.heap.size W' W6 := by rw [← hW6]; exact below_setRow ((Below.refl _ _).alloc (Nat.le_refl _) _) (Nat.le_refl _) _
    have hs6 : W6.heap.size = E + 1 := by rw [← hW6, ← hE]; simp
    have hv6 : Boxed W6 B 43 (.slice (some ⟨w.heap.size, 0, none⟩) k m) := (hb6.block _ hv.lt).trans hv
    have hr6 := ownsRow_same hrow (hb6.block _ (ownsRow_blk hrow).2)
    have hB6 := hB.trans (hb6.mono (by omega))
    have hh6 : Hold (fun k => (k = nb ∨ k = bb) ∨ k = w2.heap.size ∨ k = w2.heap.size + 1) W' W6 := Hold.below hb6 (by intro k hk; omega)
    rw [hW6, hE]
    have hlE : w2.heap.size + 1 < E := by omega
    clear hW6 hb6 hpd hq hv hvc hrow hB
    have hvc := hv6.cell
    have hvf := hv6.frozen
    have hBE : ¬ B = E := by omega
    have e0 : W6.cell? ⟨E, 0, none⟩ = some (.int .i64 q7) := by simp [World.cell?, hq6]
    have e1 : W6.cell? ⟨E, 1, none⟩ = some (.int .i64 q6) := by simp [World.cell?, hq6]
    have e2 : W6.cell? ⟨E, 2, none⟩ = some (.int .i64 q5) := by simp [World.cell?, hq6]
    have e3 : W6.cell? ⟨E, 3, none⟩ = some (.int .i64 q4) := by simp [World.cell?, hq6]
    have e4 : W6.cell? ⟨E, 4, none⟩ = some (.int .i64 q3) := by simp [World.cell?, hq6]
    have e5 : W6.cell? ⟨E, 5, none⟩ = some (.int .i64 q2) := by simp [World.cell?, hq6]
    have e6 : W6.cell? ⟨E, 6, none⟩ = some (.int .i64 q1) := by simp [World.cell?, hq6]
    have e7 : W6.cell? ⟨E, 7, none⟩ = some (.int .i64 q0) := by simp [World.cell?, hq6]
    obtain ⟨v0, gc, gf⟩ := ownsRow_room hr6 hkm
    have hGE : ¬ w.heap.size = E := by omega
    have hGB : ¬ w.heap.size = B := by omega
    have hBG : ¬ B = w.heap.size := by omega
    have hk1 : k + 1 ≤ m := by omega
    have HJ := Lib.hid (fun W => join_any q7 q6 q5 q4 q3 q2 q1 q0 (by omega) (by omega) (by omega) (by omega) (by omega) (by omega) (by omega) (by omega) (by omega) (by omega) (by omega) (by omega) (by omega) (by omega) (by omega) (by omega) W)
    obtain ⟨y, hy⟩ : ∃ y, num [q7, q6, q5, q4, q3, q2, q1, q0] 0 = y := ⟨_, rfl⟩
    rw [hy] at HJ hgk
    have HGK := Lib.hid hgk
    clear f7 f6 f5 f4 f3 f2 f1 f0 hq6 hy hgk hpto hE
    have hlen : (pre ++ [k]).length = k + 1 := by simp [HK.out]
    have htk : ((packB l).take k).map (Value.int .u8) ++ [.int .u8 y] = ((packB l).take (k + 1)).map (Value.int .u8) := by
      rw [← take_next (packB l) k (by rw [HP.out]; exact hkm), HGK.out]; simp
    have HLEN := Lib.hid hlen
    have HTK := Lib.hid htk
    clear hlen htk
    gi_wp2
    gi_region_with (first | (refine ⟨trivial, ?_⟩; gi_at_call 191; refine (((callsIn_wide (n := _)).2 (HJ.out _)).inRound ll).mono ?_; rintro e w7 ⟨rfl, hb7⟩; have c7 := cell_later hb7 gc; have f7 := (hb7.frozen (p := ⟨w.heap.size, k, none⟩) (block_lt_of_cell gc)).trans gf; have c8 := cell_later hb7 hvc; have f8 := (hb7.frozen (p := ⟨B, 0, none⟩) (block_lt_of_cell hvc)).trans hvf; have l7 := block_lt_of_cell c7; have l8 := block_lt_of_cell c8))
    all_goals
      have hb8 : Below W6.heap.size W6 w7 := (show Below W6.heap.size W6 W6.drew from ⟨rfl, rfl, rfl, Nat.le_refl _, fun _ _ => rfl⟩).trans hb7
      have hv7 : Boxed w7 B 43 (.slice (some ⟨w.heap.size, 0, none⟩) k m) := (hb8.block _ hv6.lt).trans hv6
      have hr8 := ownsRow_push (ownsRow_same hr6 (hb8.block _ (ownsRow_blk hr6).2)) hkm (.int .u8 y)
      rw [HTK.out] at hr8
      have hv8 : Boxed (w7.setCell ⟨w.heap.size, k, none⟩ (.int .u8 y)) B 43 (.slice (some ⟨w.heap.size, 0, none⟩) k m) := (Below.heap_setCell _ _ _ _ (by simpa using hBG)).trans hv7
      have hr9 := ((hr8.kept (grownBy_setCell' _ B (.slice (some ⟨w.heap.size, 0, none⟩) (k + 1) m)) (.inr (by simpa [Value.ownBlock] using hGB))).alloc (.cells #[.int .u8 y] 5))
      have hv9 := ((hv8.set (.slice (some ⟨w.heap.size, 0, none⟩) (k + 1) m)).alloc (.cells #[.int .u8 y] 5))
      have hBf : Below w.heap.size w (((w7.setCell ⟨w.heap.size, k, none⟩ (.int .u8 y)).setCell ⟨B, 0, none⟩ (.slice (some ⟨w.heap.size, 0, none⟩) (k + 1) m)).alloc (.cells #[.int .u8 y] 5)) :=
        (((hB6.trans (hb8.mono (by omega))).setCell (p := ⟨w.heap.size, k, none⟩) (Nat.le_refl _) _).setCell (p := ⟨B, 0, none⟩) (by show _ ≤ B; omega) _).alloc (by simp [World.setCell]; omega) _
      have hhf := ((((hh6.trans (Hold.below hb8 (by intro k hk; omega))).trans (.setCell (b := w.heap.size) (o := k) (p := none) _ hzg (.int .u8 y))).trans (.setCell (b := B) (o := 0) (p := none) _ hzB (.slice (some ⟨w.heap.size, 0, none⟩) (k + 1) m))).trans (.alloc _ _ (.cells #[.int .u8 y] 5)))
      clear hb7 c7 f7 c8 f8 l7 l8 hb8 hv7 hv8 hr8
      gi_wp2
      refine ⟨hhf, ?_, ?_, hBf⟩
      · rw [HLEN.out]; exact hv9
      · rw [HLEN.out]; exact hr9
  case done =>
    rintro W' ⟨hv, hrow, hB⟩ hK
    have hvc := hv.cell
    rw [List.length_range, List.take_of_length_le (by rw [HP.out]; omega)] at hrow
    rw [List.length_range] at hvc
    have HR := Lib.hid hrow
    clear hv0 hr0 hv hrow
    go_wp2
    refine ret_mark hK (results_tmp2 rfl _ _ _) ?_
    have hlK : w2.heap.size < W'.heap.size := (Array.getElem?_eq_some_iff.1 hK).1
    exact ⟨some ⟨w.heap.size, 0, none⟩, m, rfl, ownsRow_same HR.out (World.putObj_heap_other (by omega)), Below.putObj hB (by omega) _⟩
  case stop =>
    rintro c pre W _ hh _
    exact hh.elim
theorem bytesV_len {n : Nat} (h1 : 1 ≤ n) (h2 : n ≤ 4096) : ∃ m : Nat, bytesV n = m ∧ n ≤ 8 * m ∧ 8 * m < n + 8 := by
  unfold bytesV
  rw [if_neg (by omega)]
  exact ⟨(n + 7) / 8, by omega, by omega, by omega⟩
theorem pack_any (a : Option Addr) (n cap : Nat) (l : List Int) (w : World) (hnc : n ≤ cap) (hc : cap ≤ 9223372036854775807) (h : SlK .i64 w a n l) :
    Calls Tryz.prog 171 #[.slice a n cap] w (PackR l w) := by
  have hl : l.length = n := h.1
  cases hp : packOk l
  · refine (pack_no a n cap l w (by omega) h hp).mono ?_
    rintro e w' ⟨rfl, rfl⟩
    unfold PackR packV packE
    rw [hp]
    exact ⟨none, 0, rfl, World.ownsRow_nil _ _ _ _, Below.refl _ _⟩
  · have hq := hp
    unfold packOk at hq
    simp only [Bool.and_eq_true, decide_eq_true_eq] at hq
    obtain ⟨⟨h1, h2⟩, ho⟩ := hq
    obtain ⟨m, hm, hm1, hm2⟩ := bytesV_len (n := n) (by omega) (by omega)
    rcases h.2 with h0 | ⟨b, o, rfl, hs⟩
    · omega
    · refine (pack_yes b o n m cap l w hnc hc hl hs ho (by omega) (by omega) hm hm1 hm2).mono ?_
      rintro e w' ⟨ad, c, rfl, hr, hb⟩
      have hpl := packB_len m l (by omega) (by omega)
      unfold PackR packV packE
      simp only [hp, if_true]
      exact ⟨ad, c, by rw [hpl], by rw [hpl]; exact hr, hb⟩
end Bt
end Go.Proofs.YtmnhiagppicegaaGreat

/- 'append([]byte(s), y...)': bytes behind a row that was made of a text, as a law for the walk. Condition: not too many bytes. -/
namespace Go.Proofs.YtmnhiagppicegaaGreat
open Go.RowKit
set_option linter.unusedVariables false
theorem Im.below_setCells {B b : Nat} (hB : B ≤ b) : ∀ (vs : List Value) (o : Nat) (w : World), Below B w (w.setCells b o vs)
  | [], _, w => .refl _ w
  | v :: vs, o, w => by
    rw [World.setCells]
    exact ((Below.refl B w).setCell (p := ⟨b, o, none⟩) hB v).trans (Im.below_setCells hB vs (o + 1) _)
/-- a row with room behind it that may be written -/
def Im.Rm (w : World) (b n cap : Nat) (xs : List Int) : Prop := Bt.Bs w (some ⟨b, 0, none⟩) n cap xs ∧ b < w.heap.size ∧ ∀ j, n ≤ j → j < cap → (w.cell? ⟨b, j, none⟩).isSome = true ∧ w.frozen? ⟨b, j, none⟩ = false
theorem Im.Rm.later {w w' : World} {b n cap : Nat} {xs : List Int} (h : Im.Rm w b n cap xs) (hb : Below w.heap.size w w') : Im.Rm w' b n cap xs := by
  obtain ⟨h1, h2, h4⟩ := h
  refine ⟨h1.below hb, Nat.lt_of_lt_of_le h2 hb.size, fun j j1 j2 => ⟨?_, ?_⟩⟩
  · obtain ⟨v, hv⟩ := Option.isSome_iff_exists.1 (h4 j j1 j2).1
    rw [cell_later hb hv]; rfl
  · rw [hb.frozen (p := ⟨b, j, none⟩) h2]; exact (h4 j j1 j2).2
theorem Im.run_app {w : World} {b n cap : Nat} {xs : List Int} (h : Im.Rm w b n cap xs) (hn : 1 ≤ n) {a : Option Addr} {m c : Nat} {l : List Int} (hy : SlK .u8 w a m l) (hm : 1 ≤ m) (hl9 : n + m ≤ 1000000) (ty : TypeId) :
    ∃ a' c' w', (Builtin.append_ #[43, 43] ty #[.slice (some ⟨b, 0, none⟩) n cap, .slice a m c]).run Tryz.prog w = .ok (.slice a' (n + m) c') w' ∧ SlK .u8 w' a' (n + m) (xs ++ l) ∧ ∀ B, B ≤ b → Below B w w' := by
  obtain ⟨i0, hi, hz0, hz1, hz2⟩ := info_parts Bt.Tryz.info_byt
  obtain ⟨⟨⟨hxl, hx⟩, hnc, hcm, hby⟩, hlt, hsp⟩ := h
  obtain ⟨hll, hyc⟩ := hy
  rcases hyc with h0 | ⟨gb, go, rfl, hyc⟩
  · omega
  rcases hx with h0 | ⟨b', o', e', hx⟩
  · omega
  cases e'
  have hnews : ∀ j u, (l.map (Value.int .u8))[j]? = some u → w.cell? ((⟨gb, go, none⟩ : Addr).add j) = some u := fun j u hj => by
    rw [List.getElem?_map] at hj
    have hjm : j < m := by
      rcases Nat.lt_or_ge j m with h | h
      · exact h
      · rw [List.getElem?_eq_none (by omega)] at hj; cases hj
    rw [List.getElem?_eq_getElem (by omega)] at hj
    have := hyc j hjm
    rw [List.getD_eq_getElem?_getD, List.getElem?_eq_getElem (by omega)] at this
    rw [addrK_add, this]; exact hj
  have hone : ∀ u ∈ l.map (Value.int .u8), u.oneCell' = true := fun u hu => by obtain ⟨x, _, rfl⟩ := List.mem_map.1 hu; rfl
  have hlm : (l.map (Value.int .u8)).length = m := by rw [List.length_map, hll]
  by_cases hroom : n + m ≤ cap
  · have hr := run_append_room_src (P := Tryz.prog) w 43 43 ty 5 i0 Tryz.underlying43 hi b 0 n cap (.slice (some ⟨gb, go, none⟩) m c) m (l.map (Value.int .u8)) (Src.ofSlice w Tryz.underlying43 _ m c _ (by rw [hlm, hz1, Nat.mul_one]) hnews hone) hroom
      (fun j hj => by rw [hz1, Nat.mul_one, Nat.zero_add]; exact (hsp (n + j) (by omega) (by omega)).1) (fun j hj => by rw [hz1, Nat.mul_one, Nat.zero_add]; exact (hsp (n + j) (by omega) (by omega)).2)
    rw [hz1, Nat.mul_one, Nat.zero_add] at hr
    refine ⟨_, _, _, hr, ⟨by rw [List.length_append, hxl, hll], .inr ⟨b, 0, rfl, fun i hi2 => ?_⟩⟩, fun B hB => Im.below_setCells hB _ _ _⟩
    rw [Nat.zero_add]
    by_cases hin : i < n
    · rw [World.cell?_setCells_out b _ n w ⟨b, i, none⟩ (fun _ _ => .inl hin)]
      have := hx i hin
      rw [Nat.zero_add] at this
      rw [this, List.getD_eq_getElem?_getD, List.getD_eq_getElem?_getD, List.getElem?_append_left (by omega)]
    · obtain ⟨k, rfl⟩ : ∃ k, i = n + k := ⟨i - n, by omega⟩
      have hk : k < (l.map (Value.int .u8)).length := by omega
      rw [World.cell?_setCells_in b _ n w (fun q hq => (hsp (n + q) (by omega) (by omega)).1) k hk, List.getD_eq_getElem?_getD, List.getElem?_append_right (by omega), hxl, Nat.add_sub_cancel_left, List.getElem?_eq_getElem (by omega)]
      simp
  · have holds : ∀ j u, (xs.map (Value.int .u8))[j]? = some u → w.cell? ((⟨b, 0, none⟩ : Addr).add j) = some u := fun j u hj => by
      rw [List.getElem?_map] at hj
      have hjn : j < n := by
        rcases Nat.lt_or_ge j n with h | h
        · exact h
        · rw [List.getElem?_eq_none (by omega)] at hj; cases hj
      rw [List.getElem?_eq_getElem (by omega)] at hj
      have := hx j hjn
      rw [List.getD_eq_getElem?_getD, List.getElem?_eq_getElem (by omega)] at this
      rw [addrK_add, this]; exact hj
    have hr := run_append_grow (P := Tryz.prog) w 43 ty 5 i0 (.int .u8 0) Tryz.underlying43 hi hz0 ⟨b, 0, none⟩ n cap (xs.map (Value.int .u8)) (by rw [List.length_map, hxl, hz1, Nat.mul_one]) holds ⟨gb, go, none⟩ m c (l.map (Value.int .u8)) (by rw [hlm, hz1, Nat.mul_one]) hnews (by omega) (by omega) (by have := Go.Room.nextslicecap_le' (need := n + m) (old := cap) (by omega); rw [hz2]; omega)
    refine ⟨_, _, _, hr, ⟨by rw [List.length_append, hxl, hll], .inr ⟨w.heap.size, 0, rfl, fun i hi2 => ?_⟩⟩, fun B hB => ((Below.refl B w).drew).alloc (by show B ≤ w.heap.size; omega) _⟩
    rw [Nat.zero_add]
    have hg : (xs ++ l).length = n + m := by rw [List.length_append, hxl, hll]
    show (w.drew.alloc _).cell? ⟨w.drew.heap.size, i, none⟩ = _
    rw [World.cell?_alloc_at _ _ _ _ rfl]
    rw [Array.getElem?_append_left (by simp [hxl, hll]; omega)]
    rw [List.append_toArray, List.getElem?_toArray, ← List.map_append, List.getElem?_map, List.getElem?_eq_getElem (by omega), List.getD_eq_getElem?_getD, List.getElem?_eq_getElem (by omega)]
    rfl
end Go.Proofs.YtmnhiagppicegaaGreat

/- 'append(v, y...)' where v is the call's own and y any slice of integers that is known, nil and empty ones too: as a law for the walk. No condition beyond what is named. -/
namespace Go.Proofs.YtmnhiagppicegaaGreat
open Go.RowKit
set_option linter.unusedVariables false

theorem app_none {P : Program} {w : World} (base : Nat) (t ty e : TypeId) (i : TypeInfo) (size : Nat) (ht : P.underlying t = some (.slice e)) (hi : P.info? e = some i)
    (v : Value) (n c : Nat) (xs : List Value) (hown : w.ownsRow base e size v n xs) :
    (Builtin.append_ #[t, t] ty #[v, .slice none 0 c]).run P w = .ok v w := by
  rcases hown.2 with ⟨rfl, rfl⟩ | ⟨g, cap, cur, rfl, _, _, hnc, _⟩
  · simp [Builtin.append_, run_underlying ht, sizeOf, typeInfo, hi, Builtin.lenOf, Builtin.firstCells]
  · simp [Builtin.append_, run_underlying ht, sizeOf, typeInfo, hi, Builtin.lenOf, Builtin.firstCells, hnc, storeCells]
theorem ints_one (q : IntKind) (l : List Int) : ∀ u ∈ l.map (Value.int q), u.oneCell' = true := by
  intro u hu; obtain ⟨x, _, rfl⟩ := List.mem_map.1 hu; rfl
theorem run_app {P : Program} {w : World} (base : Nat) (t ty e : TypeId) (i : TypeInfo) (q : IntKind) (bytes : Nat) (ht : P.underlying t = some (.slice e)) (hi : P.info? e = some i) (hz : i.zero = some (.int q 0))
    (hsize : i.size = 1) (hby : i.bytes = bytes) (v : Value) (n : Nat) (xs : List Value) (hown : w.ownsRow base e 1 v n xs)
    (a : Option Addr) (m c : Nat) (l : List Int) (hy : SlK q w a m l) (h63 : n + m ≤ maxLen) (hbytes : (n + m) * bytes ≤ 140737488355328) (hbase : base ≤ w.heap.size) :
    ∃ v' w', (Builtin.append_ #[t, t] ty #[v, .slice a m c]).run P w = .ok v' w' ∧ w'.ownsRow base e 1 v' (n + m) (xs ++ l.map (Value.int q)) ∧ w.grownBy w' v.ownBlock ∧ (v'.ownBlock = v.ownBlock ∨ v'.ownBlock = some w.heap.size) := by
  obtain ⟨hl, hc⟩ := hy
  cases a with
  | none =>
    have hm : m = 0 := by
      rcases hc with h | ⟨_, _, h, _⟩
      · exact h
      · cases h
    subst hm
    have hl0 : l = [] := List.length_eq_zero_iff.1 hl
    subst hl0
    exact ⟨v, w, app_none base t ty e i 1 ht hi v n c xs hown, by simpa using hown, ⟨rfl, rfl, rfl, Nat.le_refl _, fun _ _ _ => rfl⟩, .inl rfl⟩
  | some ad =>
    obtain ⟨v', w', h1, h2, h3, _, h5⟩ := run_append_own_at (P := P) w base t ty e i (.int q 0) 1 bytes ht hi hz hsize hby rfl (by decide) v n xs hown ad m c (l.map (Value.int q)) (by rw [List.length_map, hl, Nat.mul_one]) (fun j u hu => by
      have hj : j < m := by
        rcases Nat.lt_or_ge j m with h | h
        · exact h
        · rw [List.getElem?_eq_none (by rw [List.length_map]; omega)] at hu; cases hu
      rcases hc with h | ⟨blk, off, ha, hcell⟩
      · omega
      · cases ha
        rw [addrK_add, hcell j hj]
        rw [List.getElem?_map, List.getElem?_eq_getElem (by omega)] at hu
        rw [List.getD_eq_getElem?_getD, List.getElem?_eq_getElem (by omega)]
        exact hu) (ints_one q l) h63 hbytes hbase
    exact ⟨v', w', h1, h2, h3, h5⟩
theorem wpList_app {P : Program} {w : World} {ops : Array Oper} {rest : List Oper} {o : Oper} {a : Act} {Q : Exit → Act → World → Prop} (hgd : o.guard = none) (s x : Operand) (t : TypeId)
    (ho : o.op = .call { callee := .builtin .append, args := #[s, x], argTypes := #[t, t] })
    (base : Nat) (e : TypeId) (i : TypeInfo) (q : IntKind) (bytes : Nat) (ht : P.underlying t = some (.slice e)) (hi : P.info? e = some i) (hz : i.zero = some (.int q 0))
    (hsize : i.size = 1) (hby : i.bytes = bytes) (v : Value) (n : Nat) (xs : List Value) (hs : a.eval s = v) (hown : w.ownsRow base e 1 v n xs)
    (ad : Option Addr) (m c : Nat) (l : List Int) (hx : a.eval x = .slice ad m c) (hy : SlK q w ad m l) (h63 : n + m ≤ maxLen) (hbytes : (n + m) * bytes ≤ 140737488355328) (hbase : base ≤ w.heap.size)
    (h : ∀ v' w', w'.ownsRow base e 1 v' (n + m) (xs ++ l.map (Value.int q)) → w.grownBy w' v.ownBlock → (v'.ownBlock = v.ownBlock ∨ v'.ownBlock = some w.heap.size) → wpList P ops Q rest (a.put o.dst v') w') : wpList P ops Q (o :: rest) a w := by
  refine wpList_plain hgd fun K hK => ?_
  obtain ⟨v', w', hr, h2, h3, h4⟩ := run_app (P := P) (w := w) base t o.type e i q bytes ht hi hz hsize hby v n xs hown ad m c l hy h63 hbytes hbase
  unfold Oper.wp execOp
  simp only [ho, resolve, invoke, builtin, Sem.run_bind, Sem.run_pure, Result.andThen_ok, List.map_toArray, List.map_cons, List.map_nil, hs, hx, hr]
  exact hK _ _ (h v' w' h2 h3 h4)
end Go.Proofs.YtmnhiagppicegaaGreat

/- When two rows of pixels are the same, by the document, over any memory. Condition: a length fits an int. -/
namespace Go.Proofs.YtmnhiagppicegaaGreat
open Go.RowKit
set_option linter.unusedVariables false
namespace Su
theorem ret_b {a b : Bool} (h : a = b) : Ending.returned (.bool a) = .returned (.bool b) := by rw [h]
theorem below_drewN {B : Nat} {a w : World} (h : Below B a w) (n : Nat) : Below B a (w.drewN n) := ⟨h.os, h.tape, h.output, h.size, h.block⟩
/-- two lists are the same up to k -/
def Alike (x y : List Int) (k : Nat) : Prop := ∀ i, i < k → x.getD i 0 = y.getD i 0
theorem alike_all {x y : List Int} {n : Nat} (hx : x.length = n) (hy : y.length = n) (h : Alike x y n) : x = y := by
  refine List.ext_getElem (by rw [hx, hy]) fun i h1 h2 => ?_
  have := h i (by omega)
  rw [List.getD_eq_getElem?_getD, List.getD_eq_getElem?_getD, List.getElem?_eq_getElem h1, List.getElem?_eq_getElem h2] at this
  simpa using this
theorem alike_succ {x y : List Int} {k : Nat} (h : Alike x y k) (e : x.getD k 0 = y.getD k 0) : Alike x y (k + 1) := fun i hi => by
  rcases Nat.lt_or_ge i k with h1 | h1
  · exact h i h1
  · obtain rfl : i = k := by omega
    exact e

set_option maxHeartbeats 1000000 in
theorem sameRow_any (a b : Option Addr) (n m ca cb : Nat) (x y : List Int) (w : World) (hn : n ≤ 9223372036854775807) (ha : SlK .u64 w a n x) (hb : SlK .u64 w b m y) :
    Calls Tryz.prog 77 #[.slice a n ca, .slice b m cb] w fun e w' => e = .returned (.bool (decide (x = y))) ∧ Below w.heap.size w w' := by
  by_cases h : n = m
  · subst h
    obtain ⟨lx, ha⟩ := ha
    obtain ⟨ly, hb⟩ := hb
    have LX := Lib.hid lx; clear lx
    have LY := Lib.hid ly; clear ly
    by_cases h0 : n = 0
    · subst h0
      have X := Lib.hid (show decide (x = y) = true by rw [decide_eq_true_iff, List.eq_nil_of_length_eq_zero LX.out, List.eq_nil_of_length_eq_zero LY.out])
      clear ha hb
      go_enter Tryz.func77, Tryz.ntmps77
      go_wp2
      go_rounds 1
      go_ret
      exact ⟨ret_b X.out.symm, Below.refl _ _⟩
    · rcases ha with ha | ⟨ba, oa, rfl, ha⟩
      · omega
      rcases hb with hb | ⟨bb, ob, rfl, hb⟩
      · omega
      have HA := Lib.hid ha; clear ha
      have HB := Lib.hid hb; clear hb
      go_enter Tryz.func77, Tryz.ntmps77
      go_wp2
      go_loopw [5] (fun i wr => ∃ k q : Nat, k ≤ n ∧ i = .int .i64 k ∧ Alike x y k ∧ wr = w.drewN q) (fun i _ => n - (intOf i).toNat)
      case atStart => exact ⟨0, 0, Nat.zero_le _, rfl, (fun i hi => by omega), rfl⟩
      case round =>
        obtain ⟨k, q, hk, rfl, hal, rfl⟩ := hrel
        by_cases hlt : k < n
        · have hx := HA.out k hlt
          have hy := HB.out k hlt
          obtain ⟨u, hu⟩ : ∃ u, x.getD k 0 = u := ⟨_, rfl⟩
          obtain ⟨v, hv⟩ : ∃ v, y.getD k 0 = v := ⟨_, rfl⟩
          rw [hu] at hx; rw [hv] at hy
          have HU := Lib.hid hu; clear hu
          have HV := Lib.hid hv; clear hv
          have i0 : (0 : Int) ≤ (k : Int) := Int.natCast_nonneg _
          have i1 : (k : Int) < (n : Int) := by omega
          by_cases huv : u = v
          · subst huv
            go_wp2_with (go_quiet (fail))
            go_roundw
            case rel => exact ⟨k + 1, _, by omega, by go_num, alike_succ hal (by rw [HU.out, HV.out]), rfl⟩
            case measure => simp [intOf]; omega
          · have kk : (u != v) = true := by rw [bne_iff_ne]; exact huv
            have X := Lib.hid (show decide (x = y) = false by rw [decide_eq_false_iff_not]; intro e; apply huv; rw [← HU.out, ← HV.out, e])
            go_wp2_with (go_quiet (fail))
            go_ret
            exact ⟨ret_b X.out.symm, below_drewN (below_drewN (Below.refl _ _) _) _⟩
        · obtain rfl : k = n := by omega
          have X := Lib.hid (show decide (x = y) = true by rw [decide_eq_true_iff]; exact alike_all LX.out LY.out hal)
          go_wp2
          go_ret
          exact ⟨ret_b X.out.symm, below_drewN (Below.refl _ _) _⟩
  · have X := Lib.hid (show decide (x = y) = false by rw [decide_eq_false_iff_not]; intro e; apply h; rw [← ha.1, ← hb.1, e])
    have k : ((n : Int) != m) = true := by simp; omega
    go_enter Tryz.func77, Tryz.ntmps77
    go_wp2
    go_ret
    exact ⟨ret_b X.out.symm, Below.refl _ _⟩

end Su
end Go.Proofs.YtmnhiagppicegaaGreat

/- What runs in a list, over any memory, of bits. Condition: numbers fit their kinds. -/
namespace Go.Proofs.YtmnhiagppicegaaGreat
open Go.RowKit Go.Shelf
set_option linter.unusedVariables false
namespace Bt
end Bt
end Go.Proofs.YtmnhiagppicegaaGreat

/- What runs in a list, by the document's own answer, over any memory. Condition: numbers fit their kinds. -/
namespace Go.Proofs.YtmnhiagppicegaaGreat
open Go.RowKit Go.Shelf
set_option linter.unusedVariables false
namespace Bt
end Bt
end Go.Proofs.YtmnhiagppicegaaGreat

/- What has such runs, over any memory, of bits and of the document's own answer. Condition: numbers fit their kinds. -/
namespace Go.Proofs.YtmnhiagppicegaaGreat
open Go.RowKit Go.Shelf
set_option linter.unusedVariables false
namespace Bt
end Bt
end Go.Proofs.YtmnhiagppicegaaGreat

/- A row of bits packed, by the document's own answer, over any memory. Condition: numbers fit their kinds. -/
namespace Go.Proofs.YtmnhiagppicegaaGreat
open Go.RowKit Go.Shelf
set_option linter.unusedVariables false
namespace Bt
theorem refPack_len (a : Option Addr) (n cap : Nat) (w : World) (hn : n ≤ 9223372036854775807) (h : n < 1 ∨ 4096 < n) :
    Calls Tryz.prog 98 #[.slice a n cap] w fun e w' => e = .returned (.tuple #[.slice none 0 0, .int .i64 1]) ∧ w = w' := by
  rcases h with h | h
  · obtain rfl : n = 0 := by omega
    go_enter Tryz.func98, Tryz.ntmps98
    go_wp2
    go_ret2
    exact ⟨rfl, rfl⟩
  · have h' : (4096 : Int) < n := by omega
    have h0 : ¬ n < 1 := by omega
    have h1 : ¬ (n : Int) < 1 := by omega
    go_enter Tryz.func98, Tryz.ntmps98
    go_wp2
    go_ret2
    exact ⟨rfl, rfl⟩
theorem num_pad (l : List Int) (k : Nat) (h : l.length ≤ k) : num (l ++ List.replicate (k + 1 - l.length) 0) 0 = num (l ++ List.replicate (k - l.length) 0) 0 * 2 := by
  rw [show k + 1 - l.length = (k - l.length) + 1 by omega, List.replicate_succ', ← List.append_assoc, num_append]
  simp [num]
/-- what a part comes to behind k of its places -/
def partN (l : List Int) (i k : Nat) : Int := num ((l.drop i).take k ++ List.replicate (k - ((l.drop i).take k).length) 0) 0
theorem partN_more {l : List Int} {i k : Nat} (h : i + k < l.length) : partN l i (k + 1) = partN l i k * 2 + l.getD (i + k) 0 := by
  unfold partN
  have h1 : ((l.drop i).take k).length = k := by rw [List.length_take, List.length_drop]; omega
  have h2 : ((l.drop i).take (k + 1)).length = k + 1 := by rw [List.length_take, List.length_drop]; omega
  have h3 := take_next (l.drop i) k (by rw [List.length_drop]; omega)
  rw [h1, h2, Nat.sub_self, Nat.sub_self, List.replicate_zero, List.append_nil, List.append_nil, ← h3, num_append]
  simp only [num]
  rw [List.getD_eq_getElem?_getD, List.getElem?_drop, ← List.getD_eq_getElem?_getD]
theorem partN_end {l : List Int} {i k : Nat} (h : l.length ≤ i + k) : partN l i (k + 1) = partN l i k * 2 := by
  unfold partN
  have h1 : (l.drop i).take k = l.drop i := List.take_of_length_le (by rw [List.length_drop]; omega)
  have h2 : (l.drop i).take (k + 1) = l.drop i := List.take_of_length_le (by rw [List.length_drop]; omega)
  rw [h1, h2]
  exact num_pad _ _ (by rw [List.length_drop]; omega)
theorem partN_bound {l : List Int} {i k : Nat} (ho : Ones (l.take (i + k))) (h : k ≤ 8) : 0 ≤ partN l i k ∧ partN l i k + 1 ≤ 2 ^ k := by
  have h1 : (l.drop i).take k = (l.take (i + k)).drop i := by rw [List.drop_take]; congr 1; omega
  have hb := num_bound ((l.drop i).take k ++ List.replicate (k - ((l.drop i).take k).length) 0) 0 (fun x hx => by
    rcases List.mem_append.1 hx with hx | hx
    · exact ho x (List.mem_of_mem_drop (h1 ▸ hx))
    · exact .inl (List.eq_of_mem_replicate hx)) (by omega)
  have hl : ((l.drop i).take k ++ List.replicate (k - ((l.drop i).take k).length) 0).length = k := by
    have : ((l.drop i).take k).length ≤ k := List.length_take_le _ _
    rw [List.length_append, List.length_replicate]; omega
  rw [hl] at hb
  exact ⟨hb.1, by simpa [partN] using hb.2⟩
theorem partN_all (l : List Int) (i : Nat) : partN l i 8 = num (pad ((l.drop i).take 8)) 0 := rfl
theorem pow8 : ∀ k : Nat, k ≤ 8 → (2 : Int) ^ k ≤ 256 := fun k h => (show ∀ m : Fin 9, (2 : Int) ^ m.val ≤ 256 by decide) ⟨k, by omega⟩
theorem ones_snoc {l : List Int} {x : Int} (h : Ones l) (hx : x = 0 ∨ x = 1) : Ones (l ++ [x]) := by
  intro z hz
  rcases List.mem_append.1 hz with hz | hz
  · exact h z hz
  · obtain rfl : z = x := by simpa using hz
    exact hx
theorem refPack_no1 (a : Option Addr) (n cap : Nat) (l : List Int) (w : World) (hl : l.length = n) (hn : n ≤ 9223372036854775807) (h : n < 1 ∨ 4096 < n) :
    Calls Tryz.prog 98 #[.slice a n cap] w (PackR l w) := by
  refine (refPack_len a n cap w hn h).mono ?_
  rintro e w' ⟨rfl, rfl⟩
  have hp : packOk l = false := by unfold packOk; rw [hl]; simp; omega
  unfold PackR packV packE
  rw [hp]
  exact ⟨none, 0, rfl, World.ownsRow_nil _ _ _ _, Below.refl _ _⟩
set_option maxRecDepth 100000 in
set_option maxHeartbeats 4000000 in
theorem refPack_yes (b o n m cap : Nat) (l : List Int) (w : World) (hl : l.length = n) (hcell : ∀ i, i < n → w.cell? ⟨b, o + i, none⟩ = some (.int .i64 (l.getD i 0))) (hI : ∀ x ∈ l, -9223372036854775808 ≤ x ∧ x ≤ 9223372036854775807) (h1 : 1 ≤ n) (h9 : n ≤ 4096) (hm1 : n ≤ 8 * m) (hm2 : 8 * m < n + 8) :
    Calls Tryz.prog 98 #[.slice (some ⟨b, o, none⟩) n cap] w (PackR l w) := by
  obtain ⟨i0, hi, hz0, hz1, hz2⟩ := info_parts Tryz.info_byt
  have HP := Lib.hid (packB_len m l (by omega) (by omega))
  have HG := Lib.hid (fun k (h : 8 * k < n) => packB_get k l (by omega))
  have HL := Lib.hid hl
  have HS := Lib.hid hcell
  have hn1 : ¬ (n : Int) < 1 := by omega
  have hn2 : ¬ n < 1 := by omega
  have hn3 : ¬ (4096 : Int) < n := by omega
  have hn4 : ¬ 4096 < n := by omega
  clear hl hcell hI
  go_enter Tryz.func98, Tryz.ntmps98
  go_wp2
  go_loopg [4, 5] m (fun g s4 s5 wr => ∃ k : Nat, k + g = m ∧ s5 = .int .i64 (8 * (k : Int)) ∧ wr.ownsRow w.heap.size 5 1 s4 k (((packB l).take k).map (Value.int .u8)) ∧ Below w.heap.size w wr ∧ Hid (Ones (l.take (8 * k))))
  case atStart => exact ⟨0, by omega, rfl, World.ownsRow_nil _ _ _ _, Below.refl _ _, Lib.hid (by intro x hx; simp at hx)⟩
  case round =>
    obtain ⟨k, hk, rfl, hrow, hB, ho⟩ := hrel
    cases gk with
    | zero =>
      obtain rfl : k = m := by omega
      have hlt : ¬ 8 * (k : Int) < n := by omega
      have hp : packOk l = true := by
        have := ho.out
        rw [List.take_of_length_le (by rw [HL.out]; omega)] at this
        unfold packOk; rw [HL.out]; simp [this]; omega
      have HOK := Lib.hid hp
      obtain ⟨ad, cap', rfl, hown, hcap⟩ := ownK_row (by rw [List.length_take, HP.out]; omega) hrow
      have HR := Lib.hid hrow; clear hrow hp
      go_wp2
      go_ret2
      unfold PackR packV packE
      rw [HOK.out]
      simp only [if_true]
      have hr := HR.out
      rw [List.take_of_length_le (by rw [HP.out]; omega)] at hr
      exact ⟨ad, cap', by rw [HP.out]; rfl, by rw [HP.out]; exact hr, hB⟩
    | succ g =>
      obtain ⟨I, hI⟩ : ∃ I : Nat, 8 * k = I := ⟨_, rfl⟩
      have hI2 : 8 * (k : Int) = (I : Int) := by omega
      have hgk := HG.out k (by omega)
      rw [hI2]
      rw [hI] at ho hgk
      have hlt : (I : Int) < n := by omega
      have HI := Lib.hid hI
      have HI2 := Lib.hid hI2
      have hIn : I < n := by omega
      have HGK := Lib.hid hgk
      have HR := Lib.hid hrow
      have hW := hB.size
      have HB1 := Lib.hid hB
      obtain ⟨W1, hw1⟩ : ∃ W1, wr = W1 := ⟨_, rfl⟩
      rw [hw1] at HR HB1 hW ⊢
      clear hI hI2 hgk hrow hB hw1
      go_wp2
      go_loopg [6, 7] 8 (fun g2 s6 s7 wx => ∃ j : Nat, j + g2 = 8 ∧ s7 = .int .i64 ((I : Int) + j) ∧ s6 = .int .i64 (partN l I j) ∧ wx = W1 ∧ Hid (Ones (l.take (I + j))))
      case atStart => exact ⟨0, by omega, by simp, by simp [partN, num], rfl, ho⟩
      case round =>
        obtain ⟨j, hj, rfl, rfl, rfl, ho2⟩ := hrel
        have hpb := partN_bound ho2.out (by omega)
        have hpw := pow8 j (by omega)
        obtain ⟨y, hy⟩ : ∃ y, partN l I j = y := ⟨_, rfl⟩
        rw [hy] at hpb ⊢
        have y0 : 0 ≤ y := hpb.1
        have y1 : y ≤ 255 := by have := hpb.2; omega
        have HY := Lib.hid hy
        have j0 : (0 : Int) ≤ j := Int.natCast_nonneg _
        have j8 : (j : Int) ≤ 8 := by omega
        clear hpb hpw hy
        cases gk with
        | zero =>
          obtain rfl : j = 8 := by omega
          rw [show ((8 : Nat) : Int) = 8 from rfl]
          have htk := take_next (packB l) k (by rw [HP.out]; omega)
          rw [HGK.out, ← partN_all, HY.out] at htk
          have HTK := Lib.hid (show ((packB l).take k).map (Value.int .u8) ++ [.int .u8 y] = ((packB l).take (k + 1)).map (Value.int .u8) by rw [← htk]; simp)
          clear htk j0 j8
          go_wp2_with (at_builtin; refine wpList_append_own _ rfl _ _ 43 rfl w.heap.size 5 i0 (.int .u8 0) 1 1 Tryz.underlying43 hi hz0 hz1 hz2 rfl (by decide) _ k _ rfl (HR.out.alloc _) ⟨wr.heap.size, 0, none⟩ 1 1 [.int .u8 y] rfl rfl (cell_one_new _ _ _) (by simp [Value.oneCell']) (by unfold maxLen; omega) (by omega) (by simp; omega) ?_; intro v' w4 hown' hgrow _; have HO := Lib.hid hown'; have hB4 := ((HB1.out.alloc hW _).grown hgrow (by simp; omega) (fun j ej => (HR.out.lt j ej).1)); clear hown' hgrow)
          go_roundg g
          case measure => omega
          case rel =>
            have hr := HO.out
            rw [HTK.out] at hr
            exact ⟨k + 1, by omega, by have := HI2.out; go_num, hr, hB4, Lib.hid (by rw [show 8 * (k + 1) = I + 8 by have := HI.out; omega]; exact ho2.out)⟩
        | succ g2 =>
          have hlt2 : (I : Int) + j < (I : Int) + 8 := by omega
          obtain ⟨K, hK⟩ : ∃ K : Nat, I + j = K := ⟨_, rfl⟩
          have hK2 : (I : Int) + j = (K : Int) := by omega
          rw [hK2] at hlt2 ⊢
          have hK0 : (0 : Int) ≤ K := Int.natCast_nonneg _
          have hK9 : (K : Int) ≤ 5000 := by omega
          have HK := Lib.hid hK
          have HK2 := Lib.hid hK2
          by_cases hKn : K < n
          · have hKn2 : (K : Int) < n := by omega
            have hc := cell_later HB1.out (HS.out K hKn)
            have hmr := partN_more (l := l) (i := I) (k := j) (by rw [HL.out]; omega)
            rw [HY.out, hK] at hmr
            have hnx := take_next l K (by rw [HL.out]; omega)
            obtain ⟨x, hx⟩ : ∃ x, l.getD K 0 = x := ⟨_, rfl⟩
            rw [hx] at hc hmr hnx
            have hxm : x ∈ l := by rw [← hx, List.getD_eq_getElem?_getD, List.getElem?_eq_getElem (by rw [HL.out]; omega)]; exact List.getElem_mem _
            have HM := Lib.hid hmr
            have HX := Lib.hid hnx
            have HXM := Lib.hid hxm
            clear hmr hnx hx hxm hK hK2
            by_cases hx0 : x = 0
            · subst hx0
              go_wp2
              go_roundg g2
              case measure => omega
              case rel => exact ⟨j + 1, by omega, by have := HK2.out; go_num, by have := HM.out; go_num, rfl, Lib.hid (by rw [show I + (j + 1) = K + 1 by have := HK.out; omega, ← HX.out]; exact ones_snoc (by rw [← HK.out]; exact ho2.out) (.inl rfl))⟩
            · by_cases hx1 : x = 1
              · subst hx1
                clear hx0
                go_wp2
                go_roundg g2
                case measure => omega
                case rel => exact ⟨j + 1, by omega, by have := HK2.out; go_num, by have := HM.out; go_num, rfl, Lib.hid (by rw [show I + (j + 1) = K + 1 by have := HK.out; omega, ← HX.out]; exact ones_snoc (by rw [← HK.out]; exact ho2.out) (.inr rfl))⟩
              · have k0 : (x != 0) = true := by simpa using hx0
                have k1 : (x != 1) = true := by simpa using hx1
                have hp : packOk l = false := by
                  unfold packOk
                  have : ¬ Ones l := fun e => by rcases e x HXM.out with e | e; exact hx0 e; exact hx1 e
                  simp [this]
                have HOK := Lib.hid hp
                clear hp hx0 hx1
                go_wp2
                go_ret2
                unfold PackR packV packE
                rw [HOK.out]
                exact ⟨none, 0, rfl, World.ownsRow_nil _ _ _ _, HB1.out⟩
          · have hKn2 : ¬ (K : Int) < n := by omega
            have hen := partN_end (l := l) (i := I) (k := j) (by rw [HL.out]; omega)
            rw [HY.out] at hen
            have HM := Lib.hid hen
            clear hen hK hK2
            go_wp2
            go_roundg g2
            case measure => omega
            case rel => exact ⟨j + 1, by omega, by have := HK2.out; go_num, by have := HM.out; go_num, rfl, Lib.hid (by have := ho2.out; rw [List.take_of_length_le (by rw [HL.out]; have := HK.out; omega)] at this ⊢; exact this)⟩
theorem refPack_any (a : Option Addr) (n cap : Nat) (l : List Int) (w : World) (hn : n ≤ 9223372036854775807) (hI : ∀ x ∈ l, -9223372036854775808 ≤ x ∧ x ≤ 9223372036854775807) (h : SlK .i64 w a n l) :
    Calls Tryz.prog 98 #[.slice a n cap] w (PackR l w) := by
  by_cases h0 : n < 1 ∨ 4096 < n
  · exact refPack_no1 a n cap l w h.1 hn h0
  · obtain ⟨m, hm, hm1, hm2⟩ := bytesV_len (n := n) (by omega) (by omega)
    rcases h.2 with h1 | ⟨b, o, rfl, hs⟩
    · omega
    · exact refPack_yes b o n m cap l w h.1 hs hI (by omega) (by omega) hm1 hm2
end Bt
end Go.Proofs.YtmnhiagppicegaaGreat

/- A row from its end on, over any memory, of bits. Condition: numbers fit their kinds. -/
namespace Go.Proofs.YtmnhiagppicegaaGreat
open Go.RowKit Go.Shelf
set_option linter.unusedVariables false
namespace Bt
end Bt
end Go.Proofs.YtmnhiagppicegaaGreat

/- Rows of bits: what is packed is unpacked as it was, what runs is unrun as it was. Plain facts; no condition. -/
namespace Go.Proofs.YtmnhiagppicegaaGreat
open Go.RowKit
set_option linter.unusedVariables false
namespace Bt
theorem eight_num (a b c d e f g h : Int) (ha : a = 0 ∨ a = 1) (hb : b = 0 ∨ b = 1) (hc : c = 0 ∨ c = 1) (hd : d = 0 ∨ d = 1) (he : e = 0 ∨ e = 1) (hf : f = 0 ∨ f = 1) (hg : g = 0 ∨ g = 1) (hh : h = 0 ∨ h = 1) :
    eight (num [a, b, c, d, e, f, g, h] 0) = [a, b, c, d, e, f, g, h] := by
  have B : ∀ x : Int, x = 0 ∨ x = 1 → 0 ≤ x ∧ x ≤ 1 := fun x h => by omega
  obtain ⟨a0, a1⟩ := B a ha
  obtain ⟨b0, b1⟩ := B b hb
  obtain ⟨c0, c1⟩ := B c hc
  obtain ⟨d0, d1⟩ := B d hd
  obtain ⟨e0, e1⟩ := B e he
  obtain ⟨f0, f1⟩ := B f hf
  obtain ⟨g0, g1⟩ := B g hg
  obtain ⟨h0, h1⟩ := B h hh
  clear B ha hb hc hd he hf hg hh
  simp only [num, eight, List.cons.injEq, and_true]
  refine ⟨?_, ?_, ?_, ?_, ?_, ?_, ?_, ?_⟩ <;> omega
theorem eight_num8 (l : List Int) (hl : l.length = 8) (ho : Ones l) : eight (num l 0) = l := by
  obtain ⟨a, b, c, d, e, f, g, h, rfl⟩ := list8 l hl
  exact eight_num a b c d e f g h (ho a (by simp)) (ho b (by simp)) (ho c (by simp)) (ho d (by simp)) (ho e (by simp)) (ho f (by simp)) (ho g (by simp)) (ho h (by simp))
theorem bits_pack : ∀ (m : Nat) (l : List Int), l.length ≤ 8 * m → 8 * m < l.length + 8 → Ones l → bitsOf (packB l) = l ++ List.replicate (8 * m - l.length) 0
  | 0, l, h, _, _ => by
    have : l = [] := List.eq_nil_of_length_eq_zero (by omega)
    subst this; simp [packB_nil, bitsOf]
  | m + 1, l, h, k, ho => by
    have hne : l ≠ [] := by intro e; subst e; simp at k; omega
    have hpo := pad_01 (pt := l.take 8) (fun x hx => ho x (List.mem_of_mem_take hx))
    rw [packB_more hne, bitsOf, eight_num8 _ (pad_len _ (List.length_take_le _ _)) hpo]
    by_cases h8 : 8 ≤ l.length
    · rw [bits_pack m (l.drop 8) (by simp; omega) (by simp; omega) (fun x hx => ho x (List.mem_of_mem_drop hx))]
      have e : pad (l.take 8) = l.take 8 := by unfold pad; rw [List.length_take, Nat.min_eq_left h8]; simp
      rw [e, ← List.append_assoc, List.take_append_drop, List.length_drop]
      congr 2; omega
    · have hm : m = 0 := by omega
      subst hm
      have e : l.drop 8 = [] := List.drop_eq_nil_of_le (by omega)
      rw [e, packB_nil, bitsOf, List.append_nil, List.take_of_length_le (by omega)]
      rfl
end Bt
end Go.Proofs.YtmnhiagppicegaaGreat

/- How far a number is from 0, and what its digits' iterator hands out, over any memory. Condition: numbers fit their kinds. -/
namespace Go.Proofs.YtmnhiagppicegaaGreat
open Go.RowKit Go.Shelf
attribute [local go_sem] Oper.semAt_some
set_option linter.unusedVariables false

theorem ret_i {k : IntKind} {a b : Int} (h : a = b) : Ending.returned (.int k a) = .returned (.int k b) := by rw [h]
theorem size_any (n : Int) (hn : Nu.I n) (w : World) :
    Calls Tryz.prog 134 #[.int .i64 n] w fun e w' => e = .returned (.int .u64 n.natAbs) ∧ w = w' := by
  obtain ⟨h1, h2⟩ := hn
  by_cases h : n < 0
  · have X : Hid (IntKind.u64.wrap (-(IntKind.u64.wrap n)) = (n.natAbs : Int)) := by show _ = _; simp [IntKind.wrap, IntKind.bits, IntKind.signed]; omega
    go_enter Tryz.func134, Tryz.ntmps134
    go_wp2
    go_ret
    exact ⟨ret_i X.out, rfl⟩
  · have X : Hid (n = (n.natAbs : Int)) := by show _ = _; omega
    have h0 : 0 ≤ n := by omega
    go_enter Tryz.func134, Tryz.ntmps134
    go_wp2
    go_ret
    exact ⟨ret_i X.out, rfl⟩

theorem digits_any (n b : Int) (w : World) :
    Calls Tryz.prog 133 #[.int .u64 n, .int .u64 b] w fun e w' =>
      e = .returned (.func (.func 168) #[] #[.pointer (some ⟨w.heap.size, 0, none⟩), .pointer (some ⟨w.heap.size + 1, 0, none⟩)]) ∧
      w' = (w.alloc (.cells #[.int .u64 n] 25)).alloc (.cells #[.int .u64 b] 25) := by
  go_enter Tryz.func133, Tryz.ntmps133
  go_wp2
  go_ret
  exact ⟨rfl, rfl⟩

/-- The digits' iterator is made: two cells of its own. -/
def Made (n b : Int) (w : World) (e : Ending) (w' : World) : Prop :=
  ∃ nb bb, e = .returned (.func (.func 168) #[] #[.pointer (some ⟨nb, 0, none⟩), .pointer (some ⟨bb, 0, none⟩)]) ∧ nb ≠ bb ∧ w.heap.size ≤ nb ∧ w.heap.size ≤ bb ∧
    w'.cell? ⟨nb, 0, none⟩ = some (.int .u64 n) ∧ w'.cell? ⟨bb, 0, none⟩ = some (.int .u64 b) ∧ w'.frozen? ⟨nb, 0, none⟩ = false ∧ Below w.heap.size w w'
theorem digits_made (n b : Int) (w : World) : Calls Tryz.prog 133 #[.int .u64 n, .int .u64 b] w (Made n b w) := by
  refine (digits_any n b w).mono ?_
  rintro e w' ⟨rfl, rfl⟩
  exact ⟨_, _, rfl, by omega, by omega, by omega, by simp [go_sem], by simp [go_sem], by simp [go_sem], ((Below.refl _ _).alloc (Nat.le_refl _) _).alloc (by simp) _⟩

/-- the number that a cell holds -/
def cellNat (nb : Nat) (w : World) : Nat := match w.cell? ⟨nb, 0, none⟩ with | some (.int _ x) => x.toNat | _ => 0
theorem cellNat_of {nb : Nat} {w : World} {k : IntKind} {x : Int} (h : w.cell? ⟨nb, 0, none⟩ = some (.int k x)) : cellNat nb w = x.toNat := by unfold cellNat; rw [h]

set_option maxRecDepth 100000 in
set_option maxHeartbeats 2000000 in
theorem digits_gives (n b : Int) (h0 : 0 ≤ n) (h1 : n ≤ 18446744073709551615) (hb : 2 ≤ b) (hb1 : b ≤ 18446744073709551615) (nb bb : Nat) (hne : nb ≠ bb) (W0 : World) (m : Nat) (hm : 1 ≤ m)
    (cn : W0.cell? ⟨nb, 0, none⟩ = some (.int .u64 n)) (cb : W0.cell? ⟨bb, 0, none⟩ = some (.int .u64 b)) (fn : W0.frozen? ⟨nb, 0, none⟩ = false) :
    Gives Fence.wide m Tryz.prog 168 #[.pointer (some ⟨nb, 0, none⟩), .pointer (some ⟨bb, 0, none⟩)] (fun x : Int => #[.int .u64 x]) (fun k => k = nb ∨ k = bb) (Nu.dig b n) W0 := by
  intro l J Jx W hW hJ hJx hY h00
  have hln : nb < W0.heap.size := block_lt_of_cell cn
  have hlb : bb < W0.heap.size := block_lt_of_cell cb
  have cn1 := hW.cell (.inl rfl) cn
  have cb1 := hW.cell (.inr rfl) cb
  have fn1 : W.frozen? ⟨nb, 0, none⟩ = false := (hW.frozen (.inl rfl) hln).trans fn
  clear cn cb fn hln hlb hW
  have hbz : (b == 0) = false := by simp; omega
  refine callsIn_of_wp Tryz.func168 rfl trivial ?_ rfl
  simp only [Tryz.ntmps168, List.size_toArray, List.length_cons, List.length_nil, Nat.reduceAdd, Nat.reduceSub, Array.replicate_succ, Array.replicate_zero, List.push_toArray, List.append_toArray, List.nil_append, List.cons_append]
  gi_wp2
  gi_loopw [16] (fun _ wr => ∃ (pre : List Int) (q : Int), 0 ≤ q ∧ q ≤ 18446744073709551615 ∧ Nu.dig b n = pre ++ Nu.dig b q ∧ J pre wr ∧ wr.cell? ⟨nb, 0, none⟩ = some (.int .u64 q) ∧ wr.cell? ⟨bb, 0, none⟩ = some (.int .u64 b) ∧ wr.frozen? ⟨nb, 0, none⟩ = false) (fun _ wr => cellNat nb wr)
  case atStart => exact ⟨[], n, h0, h1, rfl, h00, cn1, cb1, fn1⟩
  case round =>
    obtain ⟨pre, q, q0, q1, hx, hj, c1, c2, f1⟩ := hrel
    clear cn1 cb1 fn1 h00
    have M := Lib.hid (cellNat_of c1)
    have hmod : q % b < b := Int.emod_lt_of_pos _ (by omega)
    have hmod0 : 0 ≤ q % b := Int.emod_nonneg _ (by omega)
    have hn1 : nb < wr.heap.size := block_lt_of_cell c1
    by_cases hle : b ≤ q
    · have hx2 : Nu.dig b n = pre ++ q % b :: Nu.dig b (q / b) := by rw [hx, Nu.dig_more hb hle]
      obtain ⟨fn, tmps, assign, body, hy, hR⟩ := hY pre (q % b) (Nu.dig b (q / b)) wr hx2 hj
      have HX := Lib.hid hx2
      have hq0 : 0 ≤ q / b := Int.ediv_nonneg (by omega) (by omega)
      have hq1 : q / b ≤ q := Int.ediv_le_self _ (by omega)
      have hq2 : q / b < q := Int.ediv_lt_self_of_pos_of_ne_one (by omega) (by omega)
      clear hx hx2 hY
      gi_wp2
      refine hR.mono ?_
      rintro e W3 ⟨hh, (⟨rfl, hJ3⟩ | ⟨rfl, hJx3⟩)⟩
      · have c13 := hh.cell (.inl rfl) c1
        have c23 := hh.cell (.inr rfl) c2
        have f13 : W3.frozen? ⟨nb, 0, none⟩ = false := (hh.frozen (.inl rfl) hn1).trans f1
        clear hR hy c1 c2 f1
        gi_wp2
        go_roundw
        case rel => exact ⟨pre ++ [q % b], q / b, hq0, by omega, by rw [HX.out]; simp, hJ _ _ _ hJ3 (.setCell _ (.inl rfl) _), World.cell?_setCell_same' _ _ _ (by rw [c13]; rfl), by rw [World.cell?_setCell_other _ _ _ _ (by first | (simp; done) | (simp; omega))]; exact c23, by rw [World.frozen?_setCell]; exact f13⟩
        case measure => rw [M.out, cellNat_of (World.cell?_setCell_same' _ _ _ (by rw [c13]; rfl))]; omega
      · gi_wp2
        go_end0
        exact ⟨⟨_, rfl⟩, .inr ⟨pre ++ [q % b], ⟨Nu.dig b (q / b), by rw [HX.out]; simp⟩, hJx3⟩⟩
    · have hx2 : Nu.dig b n = pre ++ q % b :: [] := by rw [hx, Nu.dig_last (by omega)]
      obtain ⟨fn, tmps, assign, body, hy, hR⟩ := hY pre (q % b) [] wr hx2 hj
      have HX := Lib.hid hx2
      clear hx hx2 hY
      gi_wp2
      refine hR.mono ?_
      rintro e W3 ⟨hh, (⟨rfl, hJ3⟩ | ⟨rfl, hJx3⟩)⟩
      · have c13 := hh.cell (.inl rfl) c1
        have c23 := hh.cell (.inr rfl) c2
        clear hR hy c1 c2 f1
        gi_wp2
        go_end0
        exact ⟨⟨_, rfl⟩, .inl (by rw [HX.out]; exact hJ3)⟩
      · gi_wp2
        go_end0
        exact ⟨⟨_, rfl⟩, .inr ⟨pre ++ [q % b], ⟨[], by rw [HX.out]; simp⟩, hJx3⟩⟩
end Go.Proofs.YtmnhiagppicegaaGreat

/- How many bytes a number's decimals have, over any memory. Condition: the number fits its kind. -/
namespace Go.Proofs.YtmnhiagppicegaaGreat
open Go.RowKit Go.Shelf
attribute [local go_sem] Oper.semAt_some
set_option linter.unusedVariables false

def Nu.places (n : Int) : Int := (if n < 0 then 1 else 0) + (Nu.dig 10 n.natAbs).length

end Go.Proofs.YtmnhiagppicegaaGreat

/- slices.Reverse of bytes: the row is reversed in place, over any memory. No condition beyond the model's bound on a length. -/
namespace Go.Proofs.YtmnhiagppicegaaGreat
open Go.RowKit Go.Lib Go.Sort
set_option linter.unusedVariables false

set_option maxHeartbeats 1600000 in
set_option maxRecDepth 1000000 in
theorem reverse_arr (blk off cap : Nat) (d : Array Int) (w : World) (hH : Holds (Value.int .u8) w blk off d) (hsz : d.size ≤ 9223372036854775807) :
    Calls Tryz.prog 135 #[.slice (some ⟨blk, off, none⟩) d.size cap] w fun e w' => e = .returned (.tuple #[]) ∧ ∃ n, w' = putRow (Value.int .u8) (Sort.ahead w n) blk off d.reverse := by
  go_enter Tryz.func135, Tryz.ntmps135
  go_wp2
  go_loopg [2, 3] d.size (fun k s2 s3 wr => ∃ (i jn : Nat) (jz : Int) (dk : Array Int) (n : Nat), s2 = .int .i64 i ∧ s3 = .int .i64 jz ∧ ((i : Int) < jz → jz = jn ∧ jn < d.size) ∧ (¬ (i : Int) < jz → ¬ i < jn) ∧ jn - i ≤ k ∧
    dk.size = d.size ∧ wr = putRow (Value.int .u8) (Sort.ahead w n) blk off dk ∧ reverseLoop i jn dk = reverseLoop 0 (d.size - 1) d)
  case atStart => exact ⟨0, d.size - 1, (d.size : Int) - 1, d, 0, rfl, rfl, fun h => ⟨by omega, by omega⟩, fun h => by omega, by omega, rfl, (putRow_self _ w blk off d hH).symm, rfl⟩
  case round =>
    obtain ⟨i, jn, jz, dk, n, rfl, rfl, h1, h2, hk, hds, hwr, heq⟩ := hrel
    by_cases hlt : (i : Int) < jz
    · obtain ⟨rfl, hjn⟩ := h1 hlt
      have hij : i < jn := by omega
      have hHk : Holds (Value.int .u8) wr blk off dk := by rw [hwr]; exact holds_putRow _ _ blk off d dk (holds_ahead _ w n blk off d hH) hds
      obtain ⟨ci, fi⟩ := hHk i (by omega)
      obtain ⟨cj, fj⟩ := hHk jn (by omega)
      have A := Lib.hid hwr
      have HE := Lib.hid heq
      have HD := Lib.hid hds
      clear hwr hHk hH h1 h2 heq hds
      go_wp2_with fail
      go_region
      go_wp2
      go_roundg (jn - 1 - (i + 1))
      case measure => omega
      case rel =>
        have heq := HE.out
        have hds := HD.out
        rw [reverseLoop, if_pos hij] at heq
        exact ⟨i + 1, jn - 1, (jn : Int) - 1, swp dk i jn, n + 1, by simp, rfl, fun h => ⟨by omega, by omega⟩, fun h => by omega, Nat.le_refl _, by rw [size_swp]; exact hds,
          swap_world _ (by omega) (by omega) A.out (by first | rfl | simp [getElem!_pos, show jn < dk.size by omega]) (by first | rfl | simp [getElem!_pos, show i < dk.size by omega]), heq⟩
    · have hnot := h2 hlt
      have A := Lib.hid hwr
      have HE := Lib.hid heq
      clear hwr heq
      go_wp2
      go_end0
      have heq := HE.out
      refine ⟨rfl, n, ?_⟩
      rw [reverseLoop, if_neg hnot] at heq
      rw [← Lib.reverseLoop_reverse, ← heq, A.out]

/-- A row of the call's own, reversed. -/
theorem reverse_own (base : Nat) (v : Value) (n : Nat) (zs : List Int) (w : World) (h : w.ownsRow base 5 1 v n (zs.map (Value.int .u8))) (hn : 0 < n) (hsz : n ≤ 9223372036854775807) :
    Calls Tryz.prog 135 #[v] w fun e w' => e = .returned (.tuple #[]) ∧ w'.ownsRow base 5 1 v n (zs.reverse.map (Value.int .u8)) ∧ (∀ m w0, Below m w0 w → m ≤ base → Below m w0 w') ∧ (∀ g, v.ownBlock = some g → ∀ k, k ≠ g → w'.heap[k]? = w.heap[k]?) := by
  obtain ⟨g, cap, rfl, hb, hg, hle, hm, hl, hH⟩ := holds_of_ownsRow (enc := Value.int .u8) h (by rintro rfl; have := h.2; rcases this with ⟨_, h0⟩ | ⟨_, _, _, e, _⟩; omega; cases e)
  subst hl
  have := reverse_arr g 0 cap zs.toArray w hH (by simpa using hsz)
  simp only [List.size_toArray] at this
  refine this.mono ?_
  rintro e w' ⟨rfl, q, rfl⟩
  refine ⟨rfl, ?_, fun m w0 hB hm => below_putRow hB (by omega), fun g' hg' k hk => ?_⟩
  · have := ownsRow_putRow (q := q) h (ys := zs.reverse) (by simp) (Nat.le_refl _)
    rw [List.take_of_length_le (by simp)] at this
    rwa [List.reverse_toArray]
  · obtain rfl : g = g' := by simpa [Value.ownBlock] using hg'
    simp [putRow, mapBlock, Sort.ahead, Array.getElem?_modify, Ne.symm hk]
end Go.Proofs.YtmnhiagppicegaaGreat

/- A number's decimals, over any memory. Condition: the number fits its kind. -/
namespace Go.Proofs.YtmnhiagppicegaaGreat
open Go.RowKit Go.Shelf
attribute [local go_sem] Oper.semAt_some
set_option linter.unusedVariables false

theorem conv_own {W : World} {base : Nat} {g n cap : Nat} {zs : List Int} (h : W.ownsRow base 5 1 (.slice (some ⟨g, 0, none⟩) n cap) n (zs.map (Value.int .u8))) (hn : zs.length = n) :
    (convert 43 9 (.slice (some ⟨g, 0, none⟩) n cap)).run Tryz.prog W = .ok (.string (strOfNums zs)) W :=
  run_convert_bytes_arg (P := Tryz.prog) W 43 5 Tryz.underlying43 Tryz.underlying5 g 0 n cap zs hn (fun i hi => by
    rw [Nat.zero_add, h.cellAt i (by omega), List.getElem?_map, List.getElem?_eq_getElem (by omega), List.getD_eq_getElem?_getD, List.getElem?_eq_getElem (by omega)]; rfl) 9 Tryz.underlying9
theorem Tryz.info_byte : (Tryz.prog.info? 5).map (fun i => (i.zero, i.size, i.bytes)) = some (some (.int .u8 0), 1, 1) := by kernel_rfl

set_option maxRecDepth 100000 in
set_option maxHeartbeats 4000000 in
theorem decimal_any (n : Int) (hn : Nu.I n) (w : World) :
    Calls Tryz.prog 87 #[.int .i64 n] w fun e w' => e = .returned (.string (strOfNums (Nu.decV n))) ∧ Below w.heap.size w w' := by
  have hlen := Nu.dig_len64 (b := 10) (n := n.natAbs) (by omega) (by unfold Nu.I at hn; omega)
  have hna : (n.natAbs : Int) ≤ 18446744073709551615 := by unfold Nu.I at hn; omega
  have hdl := Lib.hid (Nu.dig_lt (b := 10) (by omega) n.natAbs)
  have hne0 := Lib.hid (Nu.dig_ne 10 n.natAbs)
  obtain ⟨i0, hi, hz0, hz1, hz2⟩ := info_parts Tryz.info_byte
  refine calls_of_marks Tryz.func87 rfl ?_
  simp only [Tryz.ntmps87, List.size_toArray, List.length_cons, List.length_nil, Nat.reduceAdd, Nat.reduceSub, Array.replicate_succ, Array.replicate_zero, List.push_toArray, List.append_toArray, List.nil_append, List.cons_append]
  go_wp2_with (first | (go_at_call 134; refine (size_any n hn _).mono ?_; rintro e w1 ⟨rfl, rfl⟩) | (go_at_call 133; refine (digits_made _ _ _).mono ?_; rintro e w2 ⟨nb, bb, rfl, hne, l1, l2, cn, cb, fn, hb⟩))
  have hv0 : Boxed w2 w.heap.size 43 (.slice none 0 0) := (hb.block _ (by simp)).trans (Boxed.new w _ _)
  have hbel : Below w.heap.size w w2 := ((Below.refl _ w).alloc (Nat.le_refl _) _).trans (hb.mono (by simp))
  have ln : nb < w2.heap.size := block_lt_of_cell cn
  have lb : bb < w2.heap.size := block_lt_of_cell cb
  simp only [World.size_alloc] at l1 l2
  have hws := hbel.size
  have hz : ¬ ((w.heap.size = nb ∨ w.heap.size = bb) ∨ w.heap.size = w2.heap.size ∨ w.heap.size = w2.heap.size + 1) := by omega
  have hzb : ∀ k, w2.heap.size + 2 ≤ k → ¬ ((k = nb ∨ k = bb) ∨ k = w2.heap.size ∨ k = w2.heap.size + 1) := by intro k hk; omega
  refine range_wp (gf := 168) (lb := #[.pointer (some ⟨nb, 0, none⟩), .pointer (some ⟨bb, 0, none⟩)]) rfl (enters_of Tryz.func168 (by kernel_rfl) rfl)
    (digits_gives n.natAbs 10 (by omega) hna (by omega) (by omega) nb bb hne w2 2 (by omega) cn cb fn) (by rintro k (rfl | rfl) <;> assumption) (fun _ => rfl)
    (fun pre W => ∃ v, Boxed W w.heap.size 43 v ∧ W.ownsRow (w2.heap.size + 2) 5 1 v pre.length ((pre.map (48 + ·)).map (Value.int .u8)) ∧ Below w.heap.size w W)
    (fun _ _ _ => False) ?hI (fun _ _ _ _ hh _ => hh) ⟨_, hv0, World.ownsRow_nil _ _ _ _, hbel⟩ ?_ ?assign ?body ?done ?stop
  case hI =>
    rintro p A B ⟨v, h1, h2, h4⟩ hs
    exact ⟨v, boxed_sep h1 hs hz, ownsRow_sep h2 hs hzb, h4.trans (hs.below h4.size (by intro k hk; omega))⟩
  case assign =>
    intro l x W K hK
    gi_wp2
    exact hK
  case body =>
    rintro l pre x rest W hx hlt ⟨v, hv, hrow, hB⟩
    have hp : (pre.length : Int) ≤ 65 := by have := congrArg List.length hx; simp at this; omega
    obtain ⟨x0, x1⟩ := hdl.out x (by rw [hx]; simp)
    clear hx cn cb fn hb hv0
    have hW := hB.size
    have hvc := hv.cell
    gi_wp2_with (gi_at_builtin; refine wpListIn_append_own _ rfl _ _ 43 rfl (w2.heap.size + 2) 5 i0 (.int .u8 0) 1 1 Tryz.underlying43 hi hz0 hz1 hz2 rfl (by decide) _ _ _ rfl (hrow.alloc _) ⟨W.heap.size, 0, none⟩ 1 1 [.int .u8 (48 + x)] rfl rfl (cell_one_new _ _ _) (by simp [Value.oneCell']) (by unfold maxLen; omega) (by omega) (by simp; omega) ?_; intro v' w1 hown' hgrow _; obtain ⟨g', cap', rfl⟩ := ownsRow_succ hown'; obtain ⟨hv1, hv2, hr2, hh2, hb2⟩ := pushed hv (by decide) hrow hown' hgrow; have hc1 := hv1.cell; have hf1 := hv1.frozen)
    exact ⟨hh2 _ hz hzb, _, hv2, by simpa using hr2, hB.trans (hb2 _ (Nat.le_refl _) (by omega) hW)⟩
  case done =>
    rintro W ⟨v, hv, hrow, hB⟩ hK
    obtain ⟨m, hm⟩ : ∃ m, (Nu.dig 10 n.natAbs).length = m + 1 := by
      have := hne0.out
      cases hd : Nu.dig 10 n.natAbs with
      | nil => exact absurd hd this
      | cons a b => exact ⟨b.length, rfl⟩
    have hW := hB.size
    have hm65 : (m : Int) ≤ 64 := by omega
    have hlW : w2.heap.size < W.heap.size := (Array.getElem?_eq_some_iff.1 hK).1
    have HM := Lib.hid hm
    have HN := hn
    rw [hm] at hrow
    obtain ⟨g, cap, rfl⟩ := ownsRow_succ hrow
    have hvc := hv.cell
    have hgB : w2.heap.size + 2 ≤ g := (hrow.lt g rfl).1
    clear hm cn cb fn hb hv0 hlen hn
    by_cases hneg : n < 0
    · have HB : Hid (Nu.backV n = (Nu.dig 10 n.natAbs).map (48 + ·) ++ [45]) := by show _ = _; unfold Nu.backV; rw [if_pos hneg]
      go_wp2_with (first
        | (at_builtin; refine wpList_append_own _ rfl _ _ 43 rfl (w2.heap.size + 2) 5 i0 (.int .u8 0) 1 1 Tryz.underlying43 hi hz0 hz1 hz2 rfl (by decide) _ _ _ rfl (hrow.alloc _) ⟨W.heap.size, 0, none⟩ 1 1 [.int .u8 45] rfl rfl (cell_one_new _ _ _) (by simp [Value.oneCell']) (by unfold maxLen; omega) (by omega) (by simp; omega) ?_; intro v' w1 hown' hgrow _; obtain ⟨g', cap', rfl⟩ := ownsRow_succ hown'; obtain ⟨hv1, hv2, hr2, hh2, hb2⟩ := pushed hv (by decide) hrow hown' hgrow; have hc1 := hv1.cell; have hf1 := hv1.frozen; have hc2 := hv2.cell; have HR := Lib.hid (show World.ownsRow _ (w2.heap.size + 2) 5 1 _ (m + 1 + 1) (((Nu.dig 10 n.natAbs).map (48 + ·) ++ [45]).map (Value.int .u8)) by rw [List.map_append]; exact hr2); have hB2 := hB.trans (hb2 _ (Nat.le_refl _) (by omega) hW); have HK2 := Lib.hid (((hh2 (fun k => k = w2.heap.size) (by omega) (by intro k hk; omega)).block _ hlW rfl).trans hK); have hg' := (hown'.lt g' rfl).1; have HV2 := Lib.hid hv2; clear hr2 hh2 hb2 hv2)
        | (go_at_call 135; refine (reverse_own _ _ (m + 1 + 1) _ _ HR.out (by omega) (by omega)).mono ?_; rintro e w3 ⟨rfl, hr3, hB3, hk3⟩; have hv3 : Boxed w3 w.heap.size 43 (.slice (some ⟨g', 0, none⟩) (m + 1 + 1) cap') := (hk3 g' rfl _ (by omega)).trans HV2.out; have hv3c := hv3.cell; have hcv := conv_own hr3 (by simp [HM.out]); have HK3 := Lib.hid ((hk3 g' rfl w2.heap.size (by omega)).trans HK2.out); have hB4 := hB3 _ _ hB2 (by omega); clear hk3 hB3))
      refine ret_mark HK3.out (results_tmp rfl _ _ _) ⟨?_, Below.putObj hB4 (by omega) _⟩
      unfold Nu.decV
      rw [HB.out, List.reverse_append]
      rfl
    · have HB : Hid (Nu.backV n = (Nu.dig 10 n.natAbs).map (48 + ·)) := by show _ = _; unfold Nu.backV; rw [if_neg hneg, List.append_nil]
      have hcont : ∀ W', W = W' → Calls Tryz.prog 135 #[.slice (some ⟨g, 0, none⟩) (m + 1) cap] W' fun e w' => e = .returned (.tuple #[]) ∧ w'.ownsRow (w2.heap.size + 2) 5 1 (.slice (some ⟨g, 0, none⟩) (m + 1) cap) (m + 1) (((Nu.dig 10 n.natAbs).map (48 + ·)).reverse.map (Value.int .u8)) ∧ Below w.heap.size w w' ∧ (∀ k, k ≠ g → w'.heap[k]? = W.heap[k]?) := by
        rintro W' rfl
        refine (reverse_own _ _ (m + 1) _ W hrow (by omega) (by omega)).mono ?_
        rintro e w' ⟨rfl, h1, h2, h3⟩
        exact ⟨rfl, h1, h2 _ _ hB (by omega), h3 g rfl⟩
      have HC := Lib.hid hcont
      clear hcont
      go_wp2_with (go_at_call 135; refine (HC.out _ rfl).mono ?_; rintro e w3 ⟨rfl, hr3, hB3, hk3⟩; have hv3 : Boxed w3 w.heap.size 43 (.slice (some ⟨g, 0, none⟩) (m + 1) cap) := (hk3 _ (by omega)).trans hv; have hv3c := hv3.cell; have hcv := conv_own hr3 (by simp [HM.out]); have HK3 := Lib.hid ((hk3 w2.heap.size (by omega)).trans hK); clear hk3)
      refine ret_mark HK3.out (results_tmp rfl _ _ _) ⟨?_, Below.putObj hB3 (by omega) _⟩
      unfold Nu.decV
      rw [HB.out]
      rfl
  case stop =>
    rintro c pre W _ hh _
    exact hh.elim
end Go.Proofs.YtmnhiagppicegaaGreat

/- A text's first bytes, over any memory. No condition. -/
namespace Go.Proofs.YtmnhiagppicegaaGreat
open Go.RowKit
end Go.Proofs.YtmnhiagppicegaaGreat

/- A part of a part; what a law's walk starts from. No condition. -/
namespace Go.Proofs.YtmnhiagppicegaaGreat
open Go.RowKit
set_option linter.unusedVariables false

namespace Rc
end Rc
/-- four cells in a block of the call's own -/
def P4 (w : World) (b : Nat) (t : TypeId) (p0 p1 p2 p3 : Int) : Prop := w.heap[b]? = some (.cells #[.int .i64 p0, .int .i64 p1, .int .i64 p2, .int .i64 p3] t (0, 0))
theorem P4.cells {w : World} {b : Nat} {t : TypeId} {p0 p1 p2 p3 : Int} (h : P4 w b t p0 p1 p2 p3) : w.cell? ⟨b, 0, none⟩ = some (.int .i64 p0) ∧ w.cell? ⟨b, 1, none⟩ = some (.int .i64 p1) ∧ w.cell? ⟨b, 2, none⟩ = some (.int .i64 p2) ∧ w.cell? ⟨b, 3, none⟩ = some (.int .i64 p3) := by
  have h' : w.heap[b]? = _ := h
  refine ⟨?_, ?_, ?_, ?_⟩ <;> simp [World.cell?, h']
theorem P4.lt {w : World} {b : Nat} {t : TypeId} {p0 p1 p2 p3 : Int} (h : P4 w b t p0 p1 p2 p3) : b < w.heap.size := (Array.getElem?_eq_some_iff.1 h).1
theorem P4.later {w w' : World} {b : Nat} {t : TypeId} {p0 p1 p2 p3 : Int} (h : P4 w b t p0 p1 p2 p3) (hb : Below w.heap.size w w') : P4 w' b t p0 p1 p2 p3 := (hb.block b h.lt).trans h
theorem P4.drew {w : World} {b : Nat} {t : TypeId} {p0 p1 p2 p3 : Int} (h : P4 w b t p0 p1 p2 p3) : P4 w.drew b t p0 p1 p2 p3 := h
end Go.Proofs.YtmnhiagppicegaaGreat

/- A head that was parsed without an error may be. No condition. -/
namespace Go.Proofs.YtmnhiagppicegaaGreat
namespace Hd
set_option linter.unusedVariables false
/-- what the numbers of a reader are -/
def Vals (l : L) (s : S) : Prop := (1 ≤ s.i → 1 ≤ s.v0 ∧ s.v0 ≤ l.m0) ∧ (2 ≤ s.i → 1 ≤ s.v1 ∧ s.v1 ≤ l.m1) ∧ (3 ≤ s.i → 1 ≤ s.v2 ∧ s.v2 ≤ l.m2) ∧ (s.i < 3 → s.v2 = 1) ∧ (s.p = 4 → s.i = many s.kd)
theorem vals_new (l : L) : Vals l new := ⟨fun h => absurd h (by decide), fun h => absurd h (by decide), fun h => absurd h (by decide), fun _ => rfl, fun h => absurd h (by decide)⟩
theorem vals_wrong {l : L} {s : S} (h : Vals l s) (e : Int) : Vals l (s.wrong e) := ⟨h.1, h.2.1, h.2.2.1, h.2.2.2.1, fun h => absurd h (by simp [S.wrong])⟩
theorem vals_take {l : L} {s : S} (h : Vals l s) (hi : s.i < many s.kd) {t : Tk.S} (ht : 0 ≤ t.n ∧ t.n ≤ l.at s.i) : Vals l (take s t) := by
  obtain ⟨h1, h2, h3, h4, h5⟩ := h
  have hm := many_at s.kd
  unfold take
  split
  · exact vals_wrong ⟨h1, h2, h3, h4, h5⟩ _
  split
  · split
    · exact vals_wrong ⟨h1, h2, h3, h4, h5⟩ _
    · rename_i hn
      unfold L.at at ht
      have hc : s.i = 0 ∨ s.i = 1 ∨ s.i = 2 := by omega
      unfold S.num Vals
      simp only
      rcases hc with e | e | e
      · rw [if_pos e] at ht
        rw [e] at h4 ⊢
        refine ⟨fun _ => by rw [if_pos rfl]; omega, fun h => by omega, fun h => by omega, fun _ => by rw [if_neg (by omega)]; exact h4 (by omega), fun h => ?_⟩
        by_cases h9 : 0 + 1 = many s.kd
        · exact h9
        · rw [if_neg h9] at h; omega
      · rw [if_neg (by omega), if_pos e] at ht
        have h1' := h1 (by omega)
        rw [e] at h4 ⊢
        refine ⟨fun _ => by rw [if_neg (by omega)]; exact h1', fun h => by rw [if_pos rfl]; omega, fun h => by omega, fun _ => by rw [if_neg (by omega)]; exact h4 (by omega), fun h => ?_⟩
        by_cases h9 : 1 + 1 = many s.kd
        · exact h9
        · rw [if_neg h9] at h; omega
      · rw [if_neg (by omega), if_neg (by omega)] at ht
        have h1' := h1 (by omega)
        have h2' := h2 (by omega)
        rw [e] at h4 ⊢
        refine ⟨fun _ => by rw [if_neg (by omega)]; exact h1', fun h => by rw [if_neg (by omega)]; exact h2', fun h => by rw [if_pos (by omega)]; omega, fun h => by omega, fun h => ?_⟩
        by_cases h9 : 2 + 1 = many s.kd
        · exact h9
        · rw [if_neg h9] at h; omega
  · exact ⟨h1, h2, h3, h4, fun h => absurd h (by simp [S.tok])⟩
theorem vals_put {l : L} {s : S} (hg : Good l s) (h : Vals l s) (c : Int) : Vals l (put l s c) := by
  have h' := h
  obtain ⟨h1, h2, h3, h4, h5⟩ := h
  obtain ⟨g1, g2, g3, g4, g5, g6, g7, g8⟩ := hg
  unfold put
  split
  · split
    · exact ⟨h1, h2, h3, h4, fun h => absurd h (by simp)⟩
    · exact vals_wrong h' _
  split
  · rename_i hp0 hp
    split
    · obtain ⟨a1, a2, a3, a4, a5⟩ := g3 (by omega)
      exact ⟨h1, h2, h3, h4, fun h => absurd h (by simp)⟩
    · exact vals_wrong h' _
  split
  · rename_i hp0 hp1 hp
    split
    · exact vals_take h' (g6 (by omega)) ⟨(Tk.good_put (g2 (by omega)).1 c).2.1, (Tk.good_put (g2 (by omega)).1 c).2.2.1⟩
    · exact vals_wrong h' _
  split
  · exact vals_take h' (g6 (by omega)) ⟨(Tk.good_put (g2 (by omega)).1 c).2.1, (Tk.good_put (g2 (by omega)).1 c).2.2.1⟩
  · exact h'
theorem parse_vals {l : L} (hl : l.Ok) : ∀ (x : List Int) (s : S) (i : Nat), Good l s → Vals l s → s.p ≤ 3 → (parseF l s i x).2.2 = 0 → ∃ z : S, (parseF l s i x).1 = hd z ∧ Good l z ∧ Vals l z ∧ z.p = 4 ∧ (parseF l s i x).2.1 ≤ (i : Int) + x.length
  | [], s, i, h, hv, hp, he => by rw [parse_nil i hp] at he; simp at he
  | c :: cs, s, i, h, hv, hp, he => by
    rw [parse_cons i c cs hp] at he ⊢
    have hg := good_put hl h c
    have hv' := vals_put h hv c
    by_cases h4 : (put l s c).p = 4
    · rw [parse_over _ _ h4]
      exact ⟨_, rfl, hg, hv', h4, by simp only [List.length_cons]; omega⟩
    by_cases h5 : (put l s c).p = 5
    · rw [parse_wrong _ _ h5] at he
      have := hg.2.2.2.2.2.2.1 h5
      simp only at he; omega
    · have := hg.1
      obtain ⟨z, a1, a2, a3, a4, a5⟩ := parse_vals hl cs (put l s c) (i + 1) hg hv' (by omega) he
      exact ⟨z, a1, a2, a3, a4, by rw [List.length_cons]; omega⟩
theorem parse_may (a b c : Int) (x : List Int) (he : (parseV (limits a b c) x).2.2 = 0) : May (parseV (limits a b c) x).1 ∧ 1 ≤ (parseV (limits a b c) x).2.1 ∧ (parseV (limits a b c) x).2.1 ≤ x.length := by
  have hl := limits_ok a b c
  obtain ⟨z, h1, hg, hv, h4, h5⟩ := parse_vals hl x new 0 (good_new hl) (vals_new _) (by decide) he
  obtain ⟨e1, e2, e3⟩ := parse_ends hl x new 0 (good_new hl) (by decide)
  have hk := hg.2.2.2.2.1 (by omega) (by omega)
  obtain ⟨v1, v2, v3, v4, v5⟩ := hv
  have hm := many_at z.kd
  have q0 := lim_at (n := a) (hi := 4096) (by omega)
  have q1 := lim_at (n := b) (hi := 65536) (by omega)
  have q2 := lim_at (n := c) (hi := 65535) (by omega)
  have u5 := v5 h4
  have u1 := v1 (by omega)
  have u2 := v2 (by omega)
  simp only [limits] at u1 u2 v3
  unfold parseV at *
  refine ⟨?_, by have := e2 (by rw [he]; omega); omega, by omega⟩
  rw [h1]
  unfold hd May
  refine ⟨hk, ⟨u1.1, by simp only; omega⟩, ⟨u2.1, by simp only; omega⟩, ?_, fun hb => ?_⟩
  · by_cases h3 : z.i < 3
    · have := v4 h3; simp only; omega
    · have := v3 (by omega); simp only; omega
  · have : many z.kd = 2 := many_bits hb
    exact v4 (by omega)
end Hd
end Go.Proofs.YtmnhiagppicegaaGreat

/- A slice of bytes as a text, over any memory. No condition. -/
namespace Go.Proofs.YtmnhiagppicegaaGreat
open Go.RowKit
set_option linter.unusedVariables false
/-- a slice of bytes, as a text -/
theorem Cv.conv_slk {W : World} {a : Option Addr} {len cap : Nat} {zs : List Int} (h : SlK .u8 W a len zs) : (convert 43 9 (.slice a len cap)).run Tryz.prog W = .ok (.string (strOfNums zs)) W := by
  obtain ⟨h1, h2⟩ := h
  rcases h2 with rfl | ⟨blk, off, rfl, hc⟩
  · obtain rfl : zs = [] := List.eq_nil_of_length_eq_zero h1
    rw [run_convert_bytes_string W _ _ _ a 0 cap Tryz.underlying43 Tryz.underlying5 Tryz.underlying9]
    rcases a with _ | a
    · simp [Conv.bytesToString]; rfl
    · rw [run_bytesToString W a 0 cap [] (by simpa using run_loadCells_list (P := Tryz.prog) W a [] (fun j u hj => by simp at hj))]; rfl
  · exact run_convert_bytes_arg (P := Tryz.prog) W _ _ Tryz.underlying43 Tryz.underlying5 blk off len cap zs h1 hc _ Tryz.underlying9
end Go.Proofs.YtmnhiagppicegaaGreat

/- The arithmetic of a counter, as small lemmas. No condition. -/
namespace Go.Proofs.YtmnhiagppicegaaGreat
open Go.RowKit
end Go.Proofs.YtmnhiagppicegaaGreat

/- Layer 3: two equal pairs of integers are not unequal (an array of two). No condition. -/
namespace Go.Proofs.YtmnhiagppicegaaGreat
open Go.RowKit
end Go.Proofs.YtmnhiagppicegaaGreat

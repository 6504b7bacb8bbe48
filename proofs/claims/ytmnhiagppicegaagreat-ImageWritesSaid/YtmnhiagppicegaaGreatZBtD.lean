/- What the iterator of a row's pixels hands out, over any memory. Condition: the row has just as many bytes as its width asks for. -/
import Derived.Test.YtmnhiagppicegaaGreatZgAA
namespace Go.Proofs.YtmnhiagppicegaaGreat
open Go.RowKit Go.Shelf
attribute [local go_sem] Oper.semAt_some
set_option linter.unusedVariables false
namespace Bt
/-- The iterator is made: two cells of its own, the row and how many pixels. -/
def Made (v : Value) (n : Int) (w : World) (e : Ending) (w' : World) : Prop :=
  ∃ nb bb, e = .returned (.func (.func 213) #[] #[.pointer (some ⟨nb, 0, none⟩), .pointer (some ⟨bb, 0, none⟩)]) ∧ nb ≠ bb ∧ w.heap.size ≤ nb ∧ w.heap.size ≤ bb ∧
    w'.cell? ⟨nb, 0, none⟩ = some v ∧ w'.cell? ⟨bb, 0, none⟩ = some (.int .i64 n) ∧ Below w.heap.size w w'
theorem pixels_made (a : Option Addr) (len cap : Nat) (n : Int) (w : World) : Calls Tryz.prog 207 #[.slice a len cap, .int .i64 n] w (Made (.slice a len cap) n w) := by
  go_enter Tryz.func207, Tryz.ntmps207
  go_wp2
  go_ret
  exact ⟨_, _, rfl, by omega, by omega, by omega, by simp [go_sem], by simp [go_sem], by go_grown⟩
theorem sep_below {Z : Nat → Prop} {A B : World} (h : Below A.heap.size A B) : Sep Z A B := ⟨h.os, h.tape, h.output, h.size, fun k hk _ => h.block k hk⟩
theorem take_split (xs : List Int) (p : Nat) (h : p < xs.length) : xs = xs.take p ++ xs.getD p 0 :: xs.drop (p + 1) := by
  conv => lhs; rw [← List.take_append_drop p xs, List.drop_eq_getElem_cons h]
  rw [List.getD_eq_getElem?_getD, List.getElem?_eq_getElem h]; rfl
theorem take_next (xs : List Int) (p : Nat) (h : p < xs.length) : xs.take p ++ [xs.getD p 0] = xs.take (p + 1) := by
  rw [List.take_succ_eq_append_getElem h, List.getD_eq_getElem?_getD, List.getElem?_eq_getElem h]; rfl
theorem getD_left (a b : List Int) (j : Nat) (h : j < a.length) : (a ++ b).getD j 0 = a.getD j 0 := by
  rw [List.getD_eq_getElem?_getD, List.getD_eq_getElem?_getD, List.getElem?_append_left h]
theorem getD_right (a b : List Int) (j : Nat) : (a ++ b).getD (a.length + j) 0 = b.getD j 0 := by
  rw [List.getD_eq_getElem?_getD, List.getD_eq_getElem?_getD, List.getElem?_append_right (by omega)]; congr 2; omega
theorem bitsOf_get : ∀ (zs : List Int) (k j : Nat), k < zs.length → j < 8 → (bitsOf zs).getD (8 * k + j) 0 = (eight (zs.getD k 0)).getD j 0
  | [], k, j, h, _ => by simp at h
  | c :: l, 0, j, h, hj => by
    rw [bitsOf, Nat.mul_zero, Nat.zero_add, getD_left _ _ _ (by rw [eight_len]; exact hj)]; rfl
  | c :: l, k + 1, j, h, hj => by
    rw [bitsOf, show 8 * (k + 1) + j = (eight c).length + (8 * k + j) by rw [eight_len]; omega, getD_right]
    rw [List.getD_cons_succ]
    exact bitsOf_get l k j (by simpa using h) hj
theorem pix_get (zs : List Int) (W k j : Nat) (h : k < zs.length) (hj : j < 8) (hp : 8 * k + j < W) : ((bitsOf zs).take W).getD (8 * k + j) 0 = (eight (zs.getD k 0)).getD j 0 := by
  rw [← bitsOf_get zs k j h hj, List.getD_eq_getElem?_getD, List.getElem?_take_of_lt hp, ← List.getD_eq_getElem?_getD]
def Zs (nb bb : Nat) (w : World) (k : Nat) : Prop := k = nb ∨ k = bb ∨ w.heap.size + 2 ≤ k
def Zp (nb bb rb : Nat) (w : World) (k : Nat) : Prop := k = nb ∨ k = bb ∨ k = rb ∨ w.heap.size + 2 ≤ k
set_option maxRecDepth 100000 in
set_option maxHeartbeats 2000000 in
theorem pixels_gives (zs : List Int) (n W cap rb ro nb bb : Nat) (hzs : zs.length = n) (hby : ∀ z ∈ zs, 0 ≤ z ∧ z ≤ 255) (hn : 1 ≤ n) (hn2 : n ≤ 4096) (hW1 : W ≤ 8 * n) (hW2 : 8 * n < W + 8) (hcap : n ≤ cap) (W0 : World) (m : Nat) (hm : 1 ≤ m)
    (cn : W0.cell? ⟨nb, 0, none⟩ = some (.slice (some ⟨rb, ro, none⟩) n cap)) (cb : W0.cell? ⟨bb, 0, none⟩ = some (.int .i64 W)) (hr : ∀ i, i < n → W0.cell? ⟨rb, ro + i, none⟩ = some (.int .u8 (zs.getD i 0))) :
    GivesN Fence.wide m Tryz.prog 213 #[.pointer (some ⟨nb, 0, none⟩), .pointer (some ⟨bb, 0, none⟩)] (fun x : Int => #[.int .i64 x]) (Zp nb bb rb W0) (Zs nb bb W0) ((bitsOf zs).take W) W0 := by
  intro l J Jx Wd hWs hW hJ hJx hY h00
  have cn1 := hW.cell (.inl rfl) cn
  have cb1 := hW.cell (.inr (.inl rfl)) cb
  have hr1 : ∀ i, i < n → Wd.cell? ⟨rb, ro + i, none⟩ = some (.int .u8 (zs.getD i 0)) := fun i hi => hW.cell (.inr (.inr (.inl rfl))) (hr i hi)
  clear cn cb hr hW
  obtain ⟨xs, hxs⟩ : ∃ xs, (bitsOf zs).take W = xs := ⟨_, rfl⟩
  have hxl : xs.length = W := by rw [← hxs, List.length_take, bitsOf_len]; omega
  have hget : ∀ k j, k < n → j < 8 → 8 * k + j < W → xs.getD (8 * k + j) 0 = (eight (zs.getD k 0)).getD j 0 := fun k j h1 h2 h3 => by rw [← hxs]; exact pix_get zs W k j (by omega) h2 h3
  rw [hxs] at hY
  rw [hxs]
  clear hxs
  have HY := Lib.hid hY; clear hY
  have HG := Lib.hid hget; clear hget
  have HL := Lib.hid hxl; clear hxl
  have HR := Lib.hid hr1; clear hr1
  have HB := Lib.hid hby; clear hby
  refine callsIn_of_wp Tryz.func213 rfl trivial ?_ rfl
  simp only [Tryz.ntmps213, List.size_toArray, List.length_cons, List.length_nil, Nat.reduceAdd, Nat.reduceSub, Array.replicate_succ, Array.replicate_zero, List.push_toArray, List.append_toArray, List.nil_append, List.cons_append]
  gi_wp2
  gi_loopw [11] (fun i wr => ∃ k : Nat, k ≤ n ∧ i = .int .i64 k ∧ W0.heap.size + 2 ≤ wr.heap.size ∧ J (xs.take (8 * k)) wr ∧ wr.cell? ⟨bb, 0, none⟩ = some (.int .i64 W) ∧ Hid (∀ i, i < n → wr.cell? ⟨rb, ro + i, none⟩ = some (.int .u8 (zs.getD i 0)))) (fun i _ => n - (intOf i).toNat)
  case atStart => exact ⟨0, Nat.zero_le _, rfl, hWs, by simpa using h00, cb1, HR⟩
  case round =>
    obtain ⟨k, hk, rfl, hws, hj, c2, hrr⟩ := hrel
    clear cn1 cb1 HR h00 hWs
    by_cases hlt : k < n
    · obtain ⟨c, hc⟩ : ∃ c, zs.getD k 0 = c := ⟨_, rfl⟩
      have hcc := hrr.out k hlt
      rw [hc] at hcc
      have hcb : 0 ≤ c ∧ c ≤ 255 := by
        rw [← hc, List.getD_eq_getElem?_getD, List.getElem?_eq_getElem (by omega)]; exact HB.out _ (List.getElem_mem _)
      obtain ⟨c0, c1⟩ := hcb
      have HC := Lib.hid hc; clear hc
      have k0 : (0 : Int) ≤ k := Int.natCast_nonneg _
      have k1 : (k : Int) < n := by omega
      by_cases h8 : 8 * k + 8 ≤ W
      · have hmn : min (8 : Int) ((W : Int) - 8 * (k : Int)) = 8 := by omega
        gi_wp2_with (refine ⟨trivial, ?_⟩; gi_at_call 214; refine (callsIn_wide.2 (split_any c c0 c1 _)).mono ?_; rintro e w3 ⟨rfl, hb⟩; have hB := Lib.hid hb; have c23 := cell_later hb c2; have hs3 := hb.size; have nb3 := block_lt_of_cell c23; clear hb)
        obtain ⟨q, hq⟩ : ∃ q, w3.heap.size = q := ⟨_, rfl⟩
        obtain ⟨w4, h4⟩ : ∃ w4, w3.alloc (.cells #[.int .i64 (c / 128 % 2), .int .i64 (c / 64 % 2), .int .i64 (c / 32 % 2), .int .i64 (c / 16 % 2), .int .i64 (c / 8 % 2), .int .i64 (c / 4 % 2), .int .i64 (c / 2 % 2), .int .i64 (c % 2)] 265) = w4 := ⟨_, rfl⟩
        have hbel : Below wr.heap.size wr w4 := by rw [← h4]; exact hB.out.alloc (by omega) _
        have hs4 : w4.heap.size = q + 1 := by rw [← h4, World.size_alloc, hq]
        have h8c : Hid (∀ i, i < 8 → w4.cell? ⟨q, i, none⟩ = some (.int .i64 ((eight c).getD i 0))) := Lib.hid fun i hi => by
          rw [← h4, ← hq, World.cell?_alloc_at _ _ _ _ rfl]
          obtain rfl | rfl | rfl | rfl | rfl | rfl | rfl | rfl : i = 0 ∨ i = 1 ∨ i = 2 ∨ i = 3 ∨ i = 4 ∨ i = 5 ∨ i = 6 ∨ i = 7 := by omega
          all_goals rfl
        have c24 := cell_later hbel c2
        have hr4 : Hid (∀ i, i < n → w4.cell? ⟨rb, ro + i, none⟩ = some (.int .u8 (zs.getD i 0))) := Lib.hid fun i hi => cell_later hbel (hrr.out i hi)
        have hj4 : J (xs.take (8 * k)) w4 := hJ _ _ _ hj (sep_below hbel)
        have hq4 : W0.heap.size + 2 ≤ q := by omega
        rw [h4, hq]
        clear h4 hB hbel c23 nb3 hcc hrr hj c2
        clear hq hs3
        gi_loopw [25] (fun i wr' => ∃ j : Nat, j ≤ 8 ∧ i = .int .i64 j ∧ q + 1 ≤ wr'.heap.size ∧ J (xs.take (8 * k + j)) wr' ∧ wr'.cell? ⟨bb, 0, none⟩ = some (.int .i64 W) ∧ Hid (∀ i, i < n → wr'.cell? ⟨rb, ro + i, none⟩ = some (.int .u8 (zs.getD i 0))) ∧ Hid (∀ i, i < 8 → wr'.cell? ⟨q, i, none⟩ = some (.int .i64 ((eight c).getD i 0)))) (fun i _ => 8 - (intOf i).toNat)
        case atStart => exact ⟨0, Nat.zero_le _, rfl, by omega, hj4, c24, hr4, h8c⟩
        case round =>
          obtain ⟨j, hjp, rfl, hs5, hj5, c25, hr5, h85⟩ := hrel
          clear hj4 c24 hr4 h8c
          by_cases hjl : j < 8
          · obtain ⟨x, hx⟩ : ∃ x, (eight c).getD j 0 = x := ⟨_, rfl⟩
            have hxc := h85.out j (by omega)
            rw [hx] at hxc
            have hgx : xs.getD (8 * k + j) 0 = x := by rw [HG.out k j hlt (by omega) (by omega), HC.out, hx]
            have hpl : 8 * k + j < xs.length := by rw [HL.out]; omega
            have hsp := take_split xs (8 * k + j) hpl
            have hnx := take_next xs (8 * k + j) hpl
            rw [hgx] at hsp hnx
            obtain ⟨fn, tmps, assign, body, hy, hR⟩ := HY.out (xs.take (8 * k + j)) x (xs.drop (8 * k + j + 1)) wr hsp hj5
            rw [hnx] at hR
            have HN := Lib.hid hnx
            have j0 : (0 : Int) ≤ j := Int.natCast_nonneg _
            have j1 : (j : Int) < 8 := by omega
            clear hx hgx hpl hsp hnx
            gi_wp2
            refine hR.mono ?_
            rintro e W3 ⟨hh, (⟨rfl, hJ3⟩ | ⟨rfl, hJx3⟩)⟩
            · have c26 := hh.cell (.inr (.inl rfl)) c25
              have hr6 : Hid (∀ i, i < n → W3.cell? ⟨rb, ro + i, none⟩ = some (.int .u8 (zs.getD i 0))) := Lib.hid fun i hi => hh.cell (.inr (.inr (.inl rfl))) (hr5.out i hi)
              have h86 : Hid (∀ i, i < 8 → W3.cell? ⟨q, i, none⟩ = some (.int .i64 ((eight c).getD i 0))) := Lib.hid fun i hi => hh.cell (.inr (.inr (.inr (by omega)))) (h85.out i hi)
              have hs6 := hh.size
              clear hR hy c25 hr5 h85 hxc
              gi_wp2
              go_roundw
              case rel => exact ⟨j + 1, by omega, by go_num, by omega, hJ3, c26, hr6, h86⟩
              case measure => simp [intOf]; omega
            · gi_wp2
              refine bodyPost_ret (results_none rfl _ _ _) rfl ?_
              exact ⟨⟨_, rfl⟩, .inr ⟨xs.take (8 * k + j + 1), List.take_prefix _ _, hJx3⟩⟩
          · obtain rfl : j = 8 := by omega
            clear h85
            gi_wp2
            go_roundw
            case rel => exact ⟨k + 1, by omega, by go_num, by omega, by rw [show 8 * (k + 1) = 8 * k + 8 by omega]; exact hj5, c25, hr5⟩
            case measure => simp [intOf]; omega

      · obtain ⟨p, hp⟩ : ∃ p, W - 8 * k = p := ⟨_, rfl⟩
        have hpz : (W : Int) - 8 * k = p := by omega
        have p1 : 1 ≤ p := by omega
        have p8 : p < 8 := by omega
        have hmn : min (8 : Int) ((W : Int) - 8 * (k : Int)) = (p : Int) := by omega
        have hmn2 : min (8 : Int) (p : Int) = (p : Int) := by omega
        have hsl : ∀ b w', (Instr.sliceAt 265 (.pointer (some ⟨b, 0, none⟩)) none (some (.int .i64 (p : Int))) none).run Tryz.prog w' = .ok (.slice (some ⟨b, 0, none⟩) p 8) w' := by
          intro b w'
          obtain rfl | rfl | rfl | rfl | rfl | rfl | rfl : p = 1 ∨ p = 2 ∨ p = 3 ∨ p = 4 ∨ p = 5 ∨ p = 6 ∨ p = 7 := by omega
          all_goals kernel_rfl
        gi_wp2_with (refine ⟨trivial, ?_⟩; gi_at_call 214; refine (callsIn_wide.2 (split_any c c0 c1 _)).mono ?_; rintro e w3 ⟨rfl, hb⟩; have hB := Lib.hid hb; have c23 := cell_later hb c2; have hs3 := hb.size; have nb3 := block_lt_of_cell c23; clear hb)
        obtain ⟨q, hq⟩ : ∃ q, w3.heap.size = q := ⟨_, rfl⟩
        obtain ⟨w4, h4⟩ : ∃ w4, w3.alloc (.cells #[.int .i64 (c / 128 % 2), .int .i64 (c / 64 % 2), .int .i64 (c / 32 % 2), .int .i64 (c / 16 % 2), .int .i64 (c / 8 % 2), .int .i64 (c / 4 % 2), .int .i64 (c / 2 % 2), .int .i64 (c % 2)] 265) = w4 := ⟨_, rfl⟩
        have hbel : Below wr.heap.size wr w4 := by rw [← h4]; exact hB.out.alloc (by omega) _
        have hs4 : w4.heap.size = q + 1 := by rw [← h4, World.size_alloc, hq]
        have h8c : Hid (∀ i, i < 8 → w4.cell? ⟨q, i, none⟩ = some (.int .i64 ((eight c).getD i 0))) := Lib.hid fun i hi => by
          rw [← h4, ← hq, World.cell?_alloc_at _ _ _ _ rfl]
          obtain rfl | rfl | rfl | rfl | rfl | rfl | rfl | rfl : i = 0 ∨ i = 1 ∨ i = 2 ∨ i = 3 ∨ i = 4 ∨ i = 5 ∨ i = 6 ∨ i = 7 := by omega
          all_goals rfl
        have c24 := cell_later hbel c2
        have hr4 : Hid (∀ i, i < n → w4.cell? ⟨rb, ro + i, none⟩ = some (.int .u8 (zs.getD i 0))) := Lib.hid fun i hi => cell_later hbel (hrr.out i hi)
        have hj4 : J (xs.take (8 * k)) w4 := hJ _ _ _ hj (sep_below hbel)
        have hq4 : W0.heap.size + 2 ≤ q := by omega
        rw [h4, hq]
        clear h4 hB hbel c23 nb3 hcc hrr hj c2
        clear hq hs3
        gi_loopw [25] (fun i wr' => ∃ j : Nat, j ≤ p ∧ i = .int .i64 j ∧ q + 1 ≤ wr'.heap.size ∧ J (xs.take (8 * k + j)) wr' ∧ wr'.cell? ⟨bb, 0, none⟩ = some (.int .i64 W) ∧ Hid (∀ i, i < n → wr'.cell? ⟨rb, ro + i, none⟩ = some (.int .u8 (zs.getD i 0))) ∧ Hid (∀ i, i < 8 → wr'.cell? ⟨q, i, none⟩ = some (.int .i64 ((eight c).getD i 0)))) (fun i _ => p - (intOf i).toNat)
        case atStart => exact ⟨0, Nat.zero_le _, rfl, by omega, hj4, c24, hr4, h8c⟩
        case round =>
          obtain ⟨j, hjp, rfl, hs5, hj5, c25, hr5, h85⟩ := hrel
          clear hj4 c24 hr4 h8c
          by_cases hjl : j < p
          · obtain ⟨x, hx⟩ : ∃ x, (eight c).getD j 0 = x := ⟨_, rfl⟩
            have hxc := h85.out j (by omega)
            rw [hx] at hxc
            have hgx : xs.getD (8 * k + j) 0 = x := by rw [HG.out k j hlt (by omega) (by omega), HC.out, hx]
            have hpl : 8 * k + j < xs.length := by rw [HL.out]; omega
            have hsp := take_split xs (8 * k + j) hpl
            have hnx := take_next xs (8 * k + j) hpl
            rw [hgx] at hsp hnx
            obtain ⟨fn, tmps, assign, body, hy, hR⟩ := HY.out (xs.take (8 * k + j)) x (xs.drop (8 * k + j + 1)) wr hsp hj5
            rw [hnx] at hR
            have HN := Lib.hid hnx
            have j0 : (0 : Int) ≤ j := Int.natCast_nonneg _
            have j1 : (j : Int) < p := by omega
            clear hx hgx hpl hsp hnx
            gi_wp2
            refine hR.mono ?_
            rintro e W3 ⟨hh, (⟨rfl, hJ3⟩ | ⟨rfl, hJx3⟩)⟩
            · have c26 := hh.cell (.inr (.inl rfl)) c25
              have hr6 : Hid (∀ i, i < n → W3.cell? ⟨rb, ro + i, none⟩ = some (.int .u8 (zs.getD i 0))) := Lib.hid fun i hi => hh.cell (.inr (.inr (.inl rfl))) (hr5.out i hi)
              have h86 : Hid (∀ i, i < 8 → W3.cell? ⟨q, i, none⟩ = some (.int .i64 ((eight c).getD i 0))) := Lib.hid fun i hi => hh.cell (.inr (.inr (.inr (by omega)))) (h85.out i hi)
              have hs6 := hh.size
              clear hR hy c25 hr5 h85 hxc
              gi_wp2
              go_roundw
              case rel => exact ⟨j + 1, by omega, by go_num, by omega, hJ3, c26, hr6, h86⟩
              case measure => simp [intOf]; omega
            · gi_wp2
              refine bodyPost_ret (results_none rfl _ _ _) rfl ?_
              exact ⟨⟨_, rfl⟩, .inr ⟨xs.take (8 * k + j + 1), List.take_prefix _ _, hJx3⟩⟩
          · obtain rfl : p = j := by omega
            clear h85
            gi_wp2
            go_roundw
            case rel => exact ⟨k + 1, by omega, by go_num, by omega, by rw [List.take_of_length_le (by rw [HL.out]; omega)] at hj5 ⊢; exact hj5, c25, hr5⟩
            case measure => simp [intOf]; omega
    · obtain rfl : k = n := by omega
      gi_wp2
      go_end0
      exact ⟨⟨_, rfl⟩, .inl (by rw [List.take_of_length_le (by rw [HL.out]; omega)] at hj; exact hj)⟩
end Bt
end Go.Proofs.YtmnhiagppicegaaGreat

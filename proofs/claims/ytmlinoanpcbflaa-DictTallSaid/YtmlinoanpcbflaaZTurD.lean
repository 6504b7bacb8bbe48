/- A matrix, laid: what turn's Lay comes to, over any memory. Condition: the matrix may be, and its numbers lie in memory. -/
import Derived.Test.YtmlinoanpcbflaaZgAB
import Derived.StillTailTactics
namespace Go.Proofs.Ytmlinoanpcbflaa
open Go.RowKit
set_option linter.unusedVariables false

namespace Tu
def part (n k : Nat) (f : Nat → Int) : List Int := (List.range n).map fun i => if i < k then f i else 0
theorem part_len (n k : Nat) (f : Nat → Int) : (part n k f).length = n := by simp [part]
theorem part_zero (n : Nat) (f : Nat → Int) : part n 0 f = List.replicate n 0 := by
  refine List.ext_getElem (by simp [part]) fun i h1 h2 => ?_
  simp [part]
theorem part_full (n : Nat) (f : Nat → Int) : part n n f = (List.range n).map f := by
  refine List.map_congr_left fun i hi => ?_
  rw [if_pos (List.mem_range.1 hi)]
theorem part_set {n k : Nat} (hk : k < n) (f : Nat → Int) : (part n k f).set k (f k) = part n (k + 1) f := by
  refine List.ext_getElem (by simp [part]) fun i h1 h2 => ?_
  rw [List.getElem_set]
  simp only [part, List.getElem_map, List.getElem_range]
  by_cases e : k = i
  · subst e; simp
  · rw [if_neg e]
    by_cases e2 : i < k
    · rw [if_pos e2, if_pos (by omega)]
    · rw [if_neg e2, if_neg (by omega)]
end Tu
theorem OwnG.put {base g : Nat} {w : World} {L : List Int} (h : OwnG base w g L) (k : Nat) (v : Int) : OwnG base (w.setCell ⟨g, k, none⟩ (.int .u64 v)) g (L.set k v) := by
  refine ⟨h.1, ?_⟩
  rw [Go.heap_setCell_same w g k _ _ _ h.2]
  simp [List.map_set]
theorem OwnG.fr {base g : Nat} {w : World} {L : List Int} (h : OwnG base w g L) (k : Nat) : w.frozen? ⟨g, k, none⟩ = false := by simp [World.frozen?, h.2]
theorem bel_drew (w : World) : Below w.heap.size w w.drew := ⟨rfl, rfl, rfl, Nat.le_refl _, fun _ _ => rfl⟩
theorem ia0 (r s : Nat) : (0 : Int) ≤ (r : Int) + s := by omega
theorem ia1 {r s n : Nat} (h : r + s < n) : (r : Int) + s < (n : Int) := by omega
theorem ia2 (r s : Nat) : ((r : Int) + s).toNat = r + s := by omega
theorem w64n {n : Nat} (h : n ≤ 16777216) : wrap64 (n : Int) = n := by rw [IntWalk.wrap64_in] <;> omega
theorem i64n {n : Nat} (h : n ≤ 16777216) : IntKind.i64.wrap (n : Int) = n := by rw [IntWalk.i64_in] <;> omega
theorem w64a {r s n : Nat} (h : r + s < n) (hn : n ≤ 16777216) : wrap64 ((r : Int) + s) = r + s := by rw [IntWalk.wrap64_in] <;> omega
theorem i64a {r s n : Nat} (h : r + s < n) (hn : n ≤ 16777216) : IntKind.i64.wrap ((r : Int) + s) = r + s := by rw [IntWalk.i64_in] <;> omega
theorem w64k {k n : Nat} (h : k < n) (hn : n ≤ 16777216) : wrap64 ((k : Int) + 1) = k + 1 := by rw [IntWalk.wrap64_in] <;> omega
theorem nat_tmod (a b : Nat) : (a : Int).tmod (b : Int) = ((a % b : Nat) : Int) := by rw [Int.tmod_eq_emod_of_nonneg (by omega)]; rfl
theorem nat_tdiv (a b : Nat) : (a : Int).tdiv (b : Int) = ((a / b : Nat) : Int) := by rw [Int.tdiv_eq_ediv_of_nonneg (by omega)]; rfl

set_option maxRecDepth 100000 in
set_option maxHeartbeats 4000000 in
theorem turnLay_yes (W H g : Nat) (a : Option Addr) (c : Nat) (L : List Int) (hg : g < 8) (hL : Rc.Ok W H L) (hc : L.length ≤ c) (hc2 : c ≤ 9223372036854775807) (hsz : Rc.sized (Tu.sw g W H : Nat) (Tu.sw g H W : Nat) = true) (w : World) (hs : SlK .u64 w a L.length L) :
    Calls Try.prog 66 #[.agg #[.int .i64 W, .int .i64 H, .slice a L.length c], .int .i64 g] w fun e w' => ∃ gb, e = .returned (.tuple #[.agg #[.int .i64 (Tu.sw g W H : Nat), .int .i64 (Tu.sw g H W : Nat), .slice (some ⟨gb, 0, none⟩) (W * H) (W * H)], .int .i64 0]) ∧ OwnG w.heap.size w' gb (Tu.layL g W H L) ∧ Below w.heap.size w w' := by
  have HM := Lib.hid (Rc.ok_may hL)
  have HT := Lib.hid (show Tu.isT (g : Int) = true by rw [Tu.isT_iff]; omega)
  have hlen := ok_len hL
  have HOK := Lib.hid hL
  have HSZ := Lib.hid hsz
  obtain ⟨h1, h2, h3, h4, h5, h6⟩ := hL
  have hS := Lib.hid (fun W2 => source_any W H g hg (by omega) (by omega) W2)
  have hZ := Lib.hid (fun W2 => size_any W H g hg W2)
  have hNw := Lib.hid (fun W2 => new_any (Tu.sw g W H : Nat) (Tu.sw g H W : Nat) W2 hsz)
  obtain ⟨b, off, rfl, hcell⟩ := slk_pos hs (ok_pos HOK.out)
  have HCELL := Lib.hid hcell
  have HG := Lib.hid hg
  clear h1 h2 h3 h4 h5 h6 hsz hs hg hcell
  obtain ⟨p, hp⟩ : ∃ p, Tu.sw g W H = p := ⟨_, rfl⟩
  obtain ⟨q, hq⟩ : ∃ q, Tu.sw g H W = q := ⟨_, rfl⟩
  rw [hp, hq] at hZ hNw
  rw [hp, hq]
  have HP := Lib.hid hp
  have HQ := Lib.hid hq
  clear hp hq
  have hpq : q * p = W * H := by
    rw [← HP.out, ← HQ.out]; unfold Tu.sw; split
    · rfl
    · exact Nat.mul_comm _ _
  obtain ⟨n, hn⟩ : ∃ n, W * H = n := ⟨_, rfl⟩
  simp only [Int.toNat_natCast] at hNw
  rw [hpq, hn] at hNw
  rw [hn]
  have HPQ := Lib.hid (hpq.trans hn)
  have HN := Lib.hid hn
  clear hpq hn
  have B := box2 w (.cells #[.int .i64 W, .int .i64 H, .slice (some ⟨b, off, none⟩) L.length c] 34) (.cells #[.int .i64 0, .int .i64 0, .slice none 0 0] 34)
  obtain ⟨W0, hW0⟩ : ∃ W0, (w.alloc (.cells #[.int .i64 W, .int .i64 H, .slice (some ⟨b, off, none⟩) L.length c] 34)).alloc (.cells #[.int .i64 0, .int .i64 0, .slice none 0 0] 34) = W0 := ⟨_, rfl⟩
  have D : Sb W0 w.heap.size 34 (.int .i64 W) (.int .i64 H) (.slice (some ⟨b, off, none⟩) L.length c) := by rw [← hW0]; exact (Sb.new _ _ _ _ _).alloc _
  have E : Sb W0 (w.heap.size + 1) 34 (.int .i64 0) (.int .i64 0) (.slice none 0 0) := by
    rw [← hW0]
    have := Sb.new (w.alloc (.cells #[.int .i64 W, .int .i64 H, .slice (some ⟨b, off, none⟩) L.length c] 34)) 34 (.int .i64 0) (.int .i64 0) (.slice none 0 0)
    simpa using this
  have hz0 : W0.heap.size = w.heap.size + 2 := by rw [← hW0]; simp
  rw [hW0] at B
  obtain ⟨d0, d1, d2⟩ := D.cells
  have HB := Lib.hid B
  have HD := Lib.hid D
  have HE := Lib.hid E
  clear B D E
  go_enter Try.func66, Try.ntmps66
  have B0 : Below W0.heap.size W0 W0 := Below.refl _ _
  go_wp2_with (first
    | (go_at_call 30; refine (turnMay_any _ _).mono ?_; rw [HT.out]; rintro e w1 ⟨rfl, rfl⟩)
    | (go_at_call 51; refine (may_any W H (some ⟨b, off, none⟩) L.length c (by omega) _).mono ?_; rw [HM.out]; rintro e w1 ⟨rfl, hb⟩; replace B0 := bel_step B0 hb; obtain ⟨d0, d1, d2⟩ := (HD.out.later B0).cells; have hz1 : W0.heap.size ≤ w1.heap.size := B0.size)
    | (go_at_call 34; refine (hZ.out _).mono ?_; rintro e w1 ⟨rfl, rfl⟩)
    | (go_at_call 84; refine (hNw.out _).mono ?_; rintro e w3 ⟨gb, rfl, hO, hb⟩; replace B0 := bel_step B0 hb; obtain ⟨d0, d1, d2⟩ := (HD.out.later B0).cells; have HO := Lib.hid hO; have hz3 : w.heap.size < w3.heap.size := (by have := B0.size; omega); have hz4 : w.heap.size + 1 < w3.heap.size := (by have := B0.size; omega); have hz5 : w.heap.size + 2 ≤ gb := (by have := hO.1; omega); have hz6 : gb < w3.heap.size := hO.lt; clear hO hb))
  refine (hS.out _).mono ?_
  rintro e w4 ⟨v, rfl, hv, hb⟩
  obtain ⟨fn, lb, rfl, hen, hcall⟩ := hv
  have F := (Sb.new w3 34 (.int .i64 p) (.int .i64 q) (.slice (some ⟨gb, 0, none⟩) n n)).later hb
  have G := (HO.out.alloc (.cells #[.int .i64 p, .int .i64 q, .slice (some ⟨gb, 0, none⟩) n n] 34)).later hb
  have B4 := bel_step (B0.alloc B0.size (.cells #[.int .i64 p, .int .i64 q, .slice (some ⟨gb, 0, none⟩) n n] 34)) hb
  have hz7 : w3.heap.size + 1 ≤ w4.heap.size := by have := hb.size; simpa using this
  simp only [World.size_alloc] at hcall
  have HCALL := Lib.hid hcall
  obtain ⟨f0, f1, f2⟩ := F.cells
  obtain ⟨d0, d1, d2⟩ := (HD.out.later B4).cells
  have HF := Lib.hid F
  have HGG := Lib.hid G
  have HB4 := Lib.hid B4
  clear hcall hb F G B4
  go_wp2
  have HZ := Lib.hid hz0
  have HNE := Lib.hid (show w.heap.size ≠ gb ∧ w.heap.size + 1 ≠ gb ∧ w3.heap.size ≠ gb ∧ w.heap.size ≤ gb ∧ gb < w3.heap.size + 1 by omega)
  have HLn := Lib.hid (show L.length = n by rw [HOK.out.2.2.2.2.2, ← HN.out, Nat.mul_comm]; simp)
  obtain ⟨F, hF⟩ : ∃ F : Nat → Int, (fun i => Tu.atL L W (Tu.sx g W H (i % p) (i / p)) (Tu.sy g W H (i % p) (i / p))) = F := ⟨_, rfl⟩
  have HFF := Lib.hid hF
  clear hF
  go_loopw [45] (fun i wr => ∃ k : Nat, k ≤ n ∧ i = .int .i64 k ∧ Below w.heap.size w wr ∧ Sb wr w.heap.size 34 (.int .i64 W) (.int .i64 H) (.slice (some ⟨b, off, none⟩) L.length c) ∧ Sb wr (w.heap.size + 1) 34 (.int .i64 0) (.int .i64 0) (.slice none 0 0) ∧ Sb wr w3.heap.size 34 (.int .i64 p) (.int .i64 q) (.slice (some ⟨gb, 0, none⟩) n n) ∧ OwnG w.heap.size wr gb (Tu.part n k F) ∧ Keep (w3.heap.size + 1) w4 wr) (fun i _ => n - (intOf i).toNat)
  case atStart => exact ⟨0, Nat.zero_le _, rfl, bel_step HB.out HB4.out, HD.out.later HB4.out, HE.out.later HB4.out, HF.out, by rw [Tu.part_zero]; exact HGG.out.mono (by have := B0.size; omega), Keep.refl _ _⟩
  case round =>
    obtain ⟨k, hk, rfl, B, D, E, Fb, G, Kp⟩ := hrel
    clear f0 f1 f2 d0 d1 d2
    obtain ⟨d0, d1, d2⟩ := D.cells
    obtain ⟨f0, f1, f2⟩ := Fb.cells
    by_cases hlt : k < n
    · have hltI : (k : Int) < (n : Int) := by omega
      have hp0 : 0 < p := by
        rcases Nat.eq_zero_or_pos p with h | h
        · have := HPQ.out; subst h; simp at this; omega
        · exact h
      have hxs : k % p < Tu.sw g W H := by rw [HP.out]; exact Nat.mod_lt _ hp0
      have hys : k / p < Tu.sw g H W := by rw [HQ.out]; exact Nat.div_lt_of_lt_mul (by rw [Nat.mul_comm, HPQ.out]; exact hlt)
      have hin := Tu.src_in HG.out hxs hys
      have hC := Lib.hid (fun w2 hk => HCALL.out w2 (k % p) (k / p) hk hxs hys)
      have hFk : F k = Tu.atL L W (Tu.sx g W H (k % p) (k / p)) (Tu.sy g W H (k % p) (k / p)) := by rw [← HFF.out]
      have hrem : (k : Int).tmod (p : Int) = ((k % p : Nat) : Int) := nat_tmod _ _
      have hquo : (k : Int).tdiv (p : Int) = ((k / p : Nat) : Int) := nat_tdiv _ _
      have hnz : ((p : Int) == 0) = false := by simp; omega
      have hnz2 : ¬ (p : Int) = 0 := by omega
      have hnz3 : ¬ p = 0 := by omega
      have hnz4 : (p == 0) = false := by simp; omega
      have hle : k / p ≤ k := Nat.div_le_self _ _
      obtain ⟨s, hs⟩ : ∃ s, Tu.sx g W H (k % p) (k / p) = s := ⟨_, rfl⟩
      obtain ⟨t, ht⟩ : ∃ t, Tu.sy g W H (k % p) (k / p) = t := ⟨_, rfl⟩
      obtain ⟨x, hx⟩ : ∃ x, k % p = x := ⟨_, rfl⟩
      obtain ⟨y, hy⟩ : ∃ y, k / p = y := ⟨_, rfl⟩
      rw [hs, ht] at hC hFk hin
      rw [hx, hy] at hC
      rw [hx] at hrem
      rw [hy] at hquo hle
      have hnn : n ≤ 16777216 := HLn.out ▸ hlen
      have hq2 : IntKind.i64.wrap (y : Int) = y := i64n (Nat.le_trans hle (Nat.le_trans hk hnn))
      have hpos := Tu.pos_lt hin.1 hin.2
      rw [HN.out] at hpos
      have hcv := cell_later B (HCELL.out (t * W + s) (by rw [HLn.out]; exact hpos))
      have hFv : F k = L.getD (t * W + s) 0 := hFk
      obtain ⟨v, hv⟩ : ∃ v, L.getD (t * W + s) 0 = v := ⟨_, rfl⟩
      rw [hv] at hcv hFv
      obtain ⟨r, hr⟩ : ∃ r, t * W = r := ⟨_, rfl⟩
      rw [hr] at hcv hpos
      have hm1 : (t : Int) * (W : Int) = (r : Int) := by rw [← hr]; simp
      have hm4 : IntKind.i64.wrap (r : Int) = r := i64n (Nat.le_trans (Nat.le_of_lt (Nat.lt_of_le_of_lt (Nat.le_add_right _ _) hpos)) hnn)
      have hm5 : IntKind.i64.wrap ((r : Int) + s) = r + s := i64a hpos hnn
      have hFV := Lib.hid hFv
      clear hs ht hx hy hFk hFv hv hr hxs hys hin
      have HGk := Lib.hid G
      have HKp := Lib.hid Kp
      have HDk := Lib.hid D
      have HEk := Lib.hid E
      have HFk := Lib.hid Fb
      have HBk := Lib.hid B
      clear G Kp D E Fb B
      have hzk : w3.heap.size < wr.heap.size := HFk.out.lt
      go_wp2
      go_region_held3 (fun w' => w'.cell? ⟨w3.heap.size, 0, none⟩ = some (.int .i64 p) ∧ Below wr.heap.size wr w') (first | exact ⟨f0, bel_drew wr⟩ | exact ⟨f0, Below.refl _ _⟩ | exact ⟨cell_later HB5.out f0, HB5.out⟩)
        (first | (go_at_fn fn; refine (hC.out _ ?_).mono ?_; (exact ⟨HKp.out.1, HKp.out.2⟩); rintro e w9 ⟨rfl, hb9⟩; have HB5 := Lib.hid (bel_step (bel_drew wr) hb9)))
      rename_i HS9
      have HB9 : Below wr.heap.size wr w9 := HS9.2
      clear hrem hquo hnz hnz2 hnz3 hnz4 hq2 hle
      have hI1 : (0 : Int) ≤ (r : Int) + s := ia0 r s
      have hI2 : (r : Int) + s < (n : Int) := ia1 hpos
      have hI4 : (r : Int) + s < (L.length : Int) := by rw [HLn.out]; exact hI2
      have hI3 : ((r : Int) + s).toNat = r + s := ia2 r s
      have G9 := HGk.out.later HB9
      obtain ⟨d0, d1, d2⟩ := (HDk.out.later HB9).cells
      obtain ⟨f0, f1, f2⟩ := (HFk.out.later HB9).cells
      have hcv9 := cell_later HB9 hcv
      have hgc := G9.cell (i := k) (by rw [Tu.part_len]; exact hlt)
      have hgf := G9.fr k
      go_wp2
      go_still_tail 14, (by kernel_rfl)
      change wpList _ _ _ _ _ w9.drew
      obtain ⟨w10, hw10⟩ : ∃ w10, w9.drew = w10 := ⟨_, rfl⟩
      have HBX : Below wr.heap.size wr w10 := by rw [← hw10]; exact HB9.drew
      rw [hw10]
      clear hm4 hm5 hw10 HS9 HB9 d0 d1 d2 f0 f1 f2 hcv9 hgc hgf G9
      have G9 := HGk.out.later HBX
      obtain ⟨d0, d1, d2⟩ := (HDk.out.later HBX).cells
      obtain ⟨f0, f1, f2⟩ := (HFk.out.later HBX).cells
      have hcv9 := cell_later HBX hcv
      have hgc := G9.cell (i := k) (by rw [Tu.part_len]; exact hlt)
      have hgf := G9.fr k
      have HG9 := Lib.hid G9
      obtain ⟨old, hold⟩ : ∃ old, (Tu.part n k F).getD k 0 = old := ⟨_, rfl⟩
      rw [hold] at hgc
      clear hold hen
      clear G9 hcv
      go_wp2
      go_roundw
      case rel =>
        obtain ⟨hgb, hgb1, hgb3, hgb4, hgb5⟩ := HNE.out
        have G' := HG9.out.put k v
        rw [← hFV.out, Tu.part_set hlt] at G'
        rw [hFV.out] at G'
        exact ⟨k + 1, hlt, by go_num, (bel_step HBk.out HBX).setCell hgb4 _, (HDk.out.later HBX).set _ _ hgb, (HEk.out.later HBX).set _ _ hgb1, (HFk.out.later HBX).set _ _ hgb3, G', (HKp.out.below HBX).set hgb5 _⟩
      case measure => simp [intOf]; omega
    · have hltI : ¬ (k : Int) < (n : Int) := by omega
      have hkn : k = n := by omega
      subst hkn
      obtain ⟨e0, e1', e2⟩ := E.cells
      obtain ⟨y0, y1, y2⟩ := E.fr
      have R := E.put (.int .i64 p) (.int .i64 q) (.slice (some ⟨gb, 0, none⟩) k k)
      have HR := Lib.hid R
      have HE' := Lib.hid E
      have HG' := Lib.hid G
      have HB' := Lib.hid B
      clear G E Kp D B R Fb
      go_wp2
      refine bodyPost_ret (ret_cell2 Try.results66 _ _ _ _ rfl (load_mt HR.out)) rfl ?_
      obtain ⟨hgb, hgb1, hgb3, hgb4, hgb5⟩ := HNE.out
      refine ⟨gb, rfl, ?_, (((HB'.out).setCell (by simp) _).setCell (by simp) _).setCell (by simp) _⟩
      have G2 := ((HG'.out.set ⟨w.heap.size + 1, 0, none⟩ (.int .i64 p) hgb1.symm).set ⟨w.heap.size + 1, 1, none⟩ (.int .i64 q) hgb1.symm).set ⟨w.heap.size + 1, 2, none⟩ (.slice (some ⟨gb, 0, none⟩) k k) hgb1.symm
      rw [Tu.part_full] at G2
      have e9 : Tu.layL g W H L = (List.range k).map F := by
        unfold Tu.layL Tu.grid
        rw [HP.out, HQ.out, Nat.mul_comm p q, HPQ.out, ← HFF.out]
      rw [e9]
      exact G2
end Go.Proofs.Ytmlinoanpcbflaa

/- A row of bits packed, by the document's own answer, over any memory. Condition: numbers fit their kinds. -/
import Derived.Test.YtflpocnbmpdhiaaZBtK
namespace Go.Proofs.Ytflpocnbmpdhiaa
open Go.RowKit Go.Shelf
set_option linter.unusedVariables false
namespace Bt
theorem badAt : ∀ l : List Int, ¬ Ones l → ∃ i, i < l.length ∧ l.getD i 0 ≠ 0 ∧ l.getD i 0 ≠ 1 ∧ Ones (l.take i)
  | [], h => absurd (fun x hx => by simp at hx) h
  | x :: l, h => by
    by_cases hx : x = 0 ∨ x = 1
    · obtain ⟨i, h1, h2, h3, h4⟩ := badAt l (fun k => h (fun y hy => by
        rcases List.mem_cons.1 hy with rfl | hy
        · exact hx
        · exact k y hy))
      refine ⟨i + 1, by simp; omega, by simpa using h2, by simpa using h3, ?_⟩
      intro y hy
      rw [List.take_succ_cons] at hy
      rcases List.mem_cons.1 hy with rfl | hy
      · exact hx
      · exact h4 y hy
    · exact ⟨0, by simp, by simp; omega, by simp; omega, by intro y hy; simp at hy⟩
theorem refPack_len (a : Option Addr) (n cap : Nat) (w : World) (hn : n ≤ 9223372036854775807) (h : n < 1 ∨ 4096 < n) :
    Calls Try.prog 71 #[.slice a n cap] w fun e w' => e = .returned (.tuple #[.slice none 0 0, .int .i64 1]) ∧ w = w' := by
  rcases h with h | h
  · obtain rfl : n = 0 := by omega
    go_enter Try.func71, Try.ntmps71
    go_wp2
    go_ret2
    exact ⟨rfl, rfl⟩
  · have h' : (4096 : Int) < n := by omega
    have h0 : ¬ n < 1 := by omega
    have h1 : ¬ (n : Int) < 1 := by omega
    go_enter Try.func71, Try.ntmps71
    go_wp2
    go_ret2
    exact ⟨rfl, rfl⟩
theorem num_pad (l : List Int) (k : Nat) (h : l.length ≤ k) : num (l ++ List.replicate (k + 1 - l.length) 0) 0 = num (l ++ List.replicate (k - l.length) 0) 0 * 2 := by
  rw [show k + 1 - l.length = (k - l.length) + 1 by omega, List.replicate_succ', ← List.append_assoc, num_append]
  simp [num]
/-- what a part comes to behind k of its places -/
def partN (l : List Int) (i k : Nat) : Int := num ((l.drop i).take k ++ List.replicate (k - ((l.drop i).take k).length) 0) 0
theorem partN_more {l : List Int} {i k : Nat} (h : i + k < l.length) : partN l i (k + 1) = partN l i k * 2 + l.getD (i + k) 0 := by
  unfold partN
  have h1 : ((l.drop i).take k).length = k := by rw [List.length_take, List.length_drop]; omega
  have h2 : ((l.drop i).take (k + 1)).length = k + 1 := by rw [List.length_take, List.length_drop]; omega
  have h3 := take_next (l.drop i) k (by rw [List.length_drop]; omega)
  rw [h1, h2, Nat.sub_self, Nat.sub_self, List.replicate_zero, List.append_nil, List.append_nil, ← h3, num_append]
  simp only [num]
  rw [List.getD_eq_getElem?_getD, List.getElem?_drop, ← List.getD_eq_getElem?_getD]
theorem partN_end {l : List Int} {i k : Nat} (h : l.length ≤ i + k) : partN l i (k + 1) = partN l i k * 2 := by
  unfold partN
  have h1 : (l.drop i).take k = l.drop i := List.take_of_length_le (by rw [List.length_drop]; omega)
  have h2 : (l.drop i).take (k + 1) = l.drop i := List.take_of_length_le (by rw [List.length_drop]; omega)
  rw [h1, h2]
  exact num_pad _ _ (by rw [List.length_drop]; omega)
theorem partN_bound {l : List Int} {i k : Nat} (ho : Ones (l.take (i + k))) (h : k ≤ 8) : 0 ≤ partN l i k ∧ partN l i k + 1 ≤ 2 ^ k := by
  have h1 : (l.drop i).take k = (l.take (i + k)).drop i := by rw [List.drop_take]; congr 1; omega
  have hb := num_bound ((l.drop i).take k ++ List.replicate (k - ((l.drop i).take k).length) 0) 0 (fun x hx => by
    rcases List.mem_append.1 hx with hx | hx
    · exact ho x (List.mem_of_mem_drop (h1 ▸ hx))
    · exact .inl (List.eq_of_mem_replicate hx)) (by omega)
  have hl : ((l.drop i).take k ++ List.replicate (k - ((l.drop i).take k).length) 0).length = k := by
    have : ((l.drop i).take k).length ≤ k := List.length_take_le _ _
    rw [List.length_append, List.length_replicate]; omega
  rw [hl] at hb
  exact ⟨hb.1, by simpa [partN] using hb.2⟩
theorem partN_all (l : List Int) (i : Nat) : partN l i 8 = num (pad ((l.drop i).take 8)) 0 := rfl
theorem pow8 : ∀ k : Nat, k ≤ 8 → (2 : Int) ^ k ≤ 256 := fun k h => (show ∀ m : Fin 9, (2 : Int) ^ m.val ≤ 256 by decide) ⟨k, by omega⟩
theorem ones_snoc {l : List Int} {x : Int} (h : Ones l) (hx : x = 0 ∨ x = 1) : Ones (l ++ [x]) := by
  intro z hz
  rcases List.mem_append.1 hz with hz | hz
  · exact h z hz
  · obtain rfl : z = x := by simpa using hz
    exact hx
theorem refPack_no1 (a : Option Addr) (n cap : Nat) (l : List Int) (w : World) (hl : l.length = n) (hn : n ≤ 9223372036854775807) (h : n < 1 ∨ 4096 < n) :
    Calls Try.prog 71 #[.slice a n cap] w (PackR l w) := by
  refine (refPack_len a n cap w hn h).mono ?_
  rintro e w' ⟨rfl, rfl⟩
  have hp : packOk l = false := by unfold packOk; rw [hl]; simp; omega
  unfold PackR packV packE
  rw [hp]
  exact ⟨none, 0, rfl, World.ownsRow_nil _ _ _ _, Below.refl _ _⟩
set_option maxRecDepth 100000 in
set_option maxHeartbeats 4000000 in
theorem refPack_yes (b o n m cap : Nat) (l : List Int) (w : World) (hl : l.length = n) (hcell : ∀ i, i < n → w.cell? ⟨b, o + i, none⟩ = some (.int .i64 (l.getD i 0))) (hI : ∀ x ∈ l, -9223372036854775808 ≤ x ∧ x ≤ 9223372036854775807) (h1 : 1 ≤ n) (h9 : n ≤ 4096) (hm1 : n ≤ 8 * m) (hm2 : 8 * m < n + 8) :
    Calls Try.prog 71 #[.slice (some ⟨b, o, none⟩) n cap] w (PackR l w) := by
  obtain ⟨i0, hi, hz0, hz1, hz2⟩ := info_parts Try.info_byt
  have HP := Lib.hid (packB_len m l (by omega) (by omega))
  have HG := Lib.hid (fun k (h : 8 * k < n) => packB_get k l (by omega))
  have HL := Lib.hid hl
  have HS := Lib.hid hcell
  have hn1 : ¬ (n : Int) < 1 := by omega
  have hn2 : ¬ n < 1 := by omega
  have hn3 : ¬ (4096 : Int) < n := by omega
  have hn4 : ¬ 4096 < n := by omega
  clear hl hcell hI
  go_enter Try.func71, Try.ntmps71
  go_wp2
  go_loopg [4, 5] m (fun g s4 s5 wr => ∃ k : Nat, k + g = m ∧ s5 = .int .i64 (8 * (k : Int)) ∧ wr.ownsRow w.heap.size 5 1 s4 k (((packB l).take k).map (Value.int .u8)) ∧ Below w.heap.size w wr ∧ Hid (Ones (l.take (8 * k))))
  case atStart => exact ⟨0, by omega, rfl, World.ownsRow_nil _ _ _ _, Below.refl _ _, Lib.hid (by intro x hx; simp at hx)⟩
  case round =>
    obtain ⟨k, hk, rfl, hrow, hB, ho⟩ := hrel
    cases gk with
    | zero =>
      obtain rfl : k = m := by omega
      have hlt : ¬ 8 * (k : Int) < n := by omega
      have hp : packOk l = true := by
        have := ho.out
        rw [List.take_of_length_le (by rw [HL.out]; omega)] at this
        unfold packOk; rw [HL.out]; simp [this]; omega
      have HOK := Lib.hid hp
      obtain ⟨ad, cap', rfl, hown, hcap⟩ := ownK_row (by rw [List.length_take, HP.out]; omega) hrow
      have HR := Lib.hid hrow; clear hrow hp
      go_wp2
      go_ret2
      unfold PackR packV packE
      rw [HOK.out]
      simp only [if_true]
      have hr := HR.out
      rw [List.take_of_length_le (by rw [HP.out]; omega)] at hr
      exact ⟨ad, cap', by rw [HP.out]; rfl, by rw [HP.out]; exact hr, hB⟩
    | succ g =>
      obtain ⟨I, hI⟩ : ∃ I : Nat, 8 * k = I := ⟨_, rfl⟩
      have hI2 : 8 * (k : Int) = (I : Int) := by omega
      have hgk := HG.out k (by omega)
      rw [hI2]
      rw [hI] at ho hgk
      have hlt : (I : Int) < n := by omega
      have HI := Lib.hid hI
      have HI2 := Lib.hid hI2
      have hIn : I < n := by omega
      have HGK := Lib.hid hgk
      have HR := Lib.hid hrow
      have hW := hB.size
      have HB1 := Lib.hid hB
      obtain ⟨W1, hw1⟩ : ∃ W1, wr = W1 := ⟨_, rfl⟩
      rw [hw1] at HR HB1 hW ⊢
      clear hI hI2 hgk hrow hB hw1
      go_wp2
      go_loopg [6, 7] 8 (fun g2 s6 s7 wx => ∃ j : Nat, j + g2 = 8 ∧ s7 = .int .i64 ((I : Int) + j) ∧ s6 = .int .i64 (partN l I j) ∧ wx = W1 ∧ Hid (Ones (l.take (I + j))))
      case atStart => exact ⟨0, by omega, by simp, by simp [partN, num], rfl, ho⟩
      case round =>
        obtain ⟨j, hj, rfl, rfl, rfl, ho2⟩ := hrel
        have hpb := partN_bound ho2.out (by omega)
        have hpw := pow8 j (by omega)
        obtain ⟨y, hy⟩ : ∃ y, partN l I j = y := ⟨_, rfl⟩
        rw [hy] at hpb ⊢
        have y0 : 0 ≤ y := hpb.1
        have y1 : y ≤ 255 := by have := hpb.2; omega
        have HY := Lib.hid hy
        have j0 : (0 : Int) ≤ j := Int.natCast_nonneg _
        have j8 : (j : Int) ≤ 8 := by omega
        clear hpb hpw hy
        cases gk with
        | zero =>
          obtain rfl : j = 8 := by omega
          rw [show ((8 : Nat) : Int) = 8 from rfl]
          have htk := take_next (packB l) k (by rw [HP.out]; omega)
          rw [HGK.out, ← partN_all, HY.out] at htk
          have HTK := Lib.hid (show ((packB l).take k).map (Value.int .u8) ++ [.int .u8 y] = ((packB l).take (k + 1)).map (Value.int .u8) by rw [← htk]; simp)
          clear htk j0 j8
          go_wp2_with (at_builtin; refine wpList_append_own _ rfl _ _ 33 rfl w.heap.size 5 i0 (.int .u8 0) 1 1 Try.underlying33 hi hz0 hz1 hz2 rfl (by decide) _ k _ rfl (HR.out.alloc _) ⟨wr.heap.size, 0, none⟩ 1 1 [.int .u8 y] rfl rfl (cell_one_new _ _ _) (by simp [Value.oneCell']) (by unfold maxLen; omega) (by omega) (by simp; omega) ?_; intro v' w4 hown' hgrow _; have HO := Lib.hid hown'; have hB4 := ((HB1.out.alloc hW _).grown hgrow (by simp; omega) (fun j ej => (HR.out.lt j ej).1)); clear hown' hgrow)
          go_roundg g
          case measure => omega
          case rel =>
            have hr := HO.out
            rw [HTK.out] at hr
            exact ⟨k + 1, by omega, by have := HI2.out; go_num, hr, hB4, Lib.hid (by rw [show 8 * (k + 1) = I + 8 by have := HI.out; omega]; exact ho2.out)⟩
        | succ g2 =>
          have hlt2 : (I : Int) + j < (I : Int) + 8 := by omega
          obtain ⟨K, hK⟩ : ∃ K : Nat, I + j = K := ⟨_, rfl⟩
          have hK2 : (I : Int) + j = (K : Int) := by omega
          rw [hK2] at hlt2 ⊢
          have hK0 : (0 : Int) ≤ K := Int.natCast_nonneg _
          have hK9 : (K : Int) ≤ 5000 := by omega
          have HK := Lib.hid hK
          have HK2 := Lib.hid hK2
          by_cases hKn : K < n
          · have hKn2 : (K : Int) < n := by omega
            have hc := cell_later HB1.out (HS.out K hKn)
            have hmr := partN_more (l := l) (i := I) (k := j) (by rw [HL.out]; omega)
            rw [HY.out, hK] at hmr
            have hnx := take_next l K (by rw [HL.out]; omega)
            obtain ⟨x, hx⟩ : ∃ x, l.getD K 0 = x := ⟨_, rfl⟩
            rw [hx] at hc hmr hnx
            have hxm : x ∈ l := by rw [← hx, List.getD_eq_getElem?_getD, List.getElem?_eq_getElem (by rw [HL.out]; omega)]; exact List.getElem_mem _
            have HM := Lib.hid hmr
            have HX := Lib.hid hnx
            have HXM := Lib.hid hxm
            clear hmr hnx hx hxm hK hK2
            by_cases hx0 : x = 0
            · subst hx0
              go_wp2
              go_roundg g2
              case measure => omega
              case rel => exact ⟨j + 1, by omega, by have := HK2.out; go_num, by have := HM.out; go_num, rfl, Lib.hid (by rw [show I + (j + 1) = K + 1 by have := HK.out; omega, ← HX.out]; exact ones_snoc (by rw [← HK.out]; exact ho2.out) (.inl rfl))⟩
            · by_cases hx1 : x = 1
              · subst hx1
                clear hx0
                go_wp2
                go_roundg g2
                case measure => omega
                case rel => exact ⟨j + 1, by omega, by have := HK2.out; go_num, by have := HM.out; go_num, rfl, Lib.hid (by rw [show I + (j + 1) = K + 1 by have := HK.out; omega, ← HX.out]; exact ones_snoc (by rw [← HK.out]; exact ho2.out) (.inr rfl))⟩
              · have k0 : (x != 0) = true := by simpa using hx0
                have k1 : (x != 1) = true := by simpa using hx1
                have hp : packOk l = false := by
                  unfold packOk
                  have : ¬ Ones l := fun e => by rcases e x HXM.out with e | e; exact hx0 e; exact hx1 e
                  simp [this]
                have HOK := Lib.hid hp
                clear hp hx0 hx1
                go_wp2
                go_ret2
                unfold PackR packV packE
                rw [HOK.out]
                exact ⟨none, 0, rfl, World.ownsRow_nil _ _ _ _, HB1.out⟩
          · have hKn2 : ¬ (K : Int) < n := by omega
            have hen := partN_end (l := l) (i := I) (k := j) (by rw [HL.out]; omega)
            rw [HY.out] at hen
            have HM := Lib.hid hen
            clear hen hK hK2
            go_wp2
            go_roundg g2
            case measure => omega
            case rel => exact ⟨j + 1, by omega, by have := HK2.out; go_num, by have := HM.out; go_num, rfl, Lib.hid (by have := ho2.out; rw [List.take_of_length_le (by rw [HL.out]; have := HK.out; omega)] at this ⊢; exact this)⟩
theorem refPack_any (a : Option Addr) (n cap : Nat) (l : List Int) (w : World) (hn : n ≤ 9223372036854775807) (hI : ∀ x ∈ l, -9223372036854775808 ≤ x ∧ x ≤ 9223372036854775807) (h : SlK .i64 w a n l) :
    Calls Try.prog 71 #[.slice a n cap] w (PackR l w) := by
  by_cases h0 : n < 1 ∨ 4096 < n
  · exact refPack_no1 a n cap l w h.1 hn h0
  · obtain ⟨m, hm, hm1, hm2⟩ := bytesV_len (n := n) (by omega) (by omega)
    rcases h.2 with h1 | ⟨b, o, rfl, hs⟩
    · omega
    · exact refPack_yes b o n m cap l w h.1 hs hI (by omega) (by omega) hm1 hm2
end Bt
end Go.Proofs.Ytflpocnbmpdhiaa

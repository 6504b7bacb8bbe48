/- A row of bits packed, by the document's own answer, over any memory. Condition: numbers fit their kinds. -/
import Derived.Test.YtkjkepnailamnaaGreatZgAB
import Derived.Test.YtkjkepnailamnaaGreatProg
import Derived.WalkKit
import Derived.WalkSpells
import Derived.WalkLawsBesides
import Derived.Deep.LoopGhost
import Derived.RegionTactic
import Derived.Lib.Walk
import Derived.Sort.WalkB12
import Derived.Lib.SlicesMore
import Derived.Lib.OwnBridge
import Derived.Handy
import Derived.Lib.Hide
import Derived.Test.YtkjkepnailamnaaGreatZgAA
import Derived.Laws.BytesArg
namespace Go.Proofs.YtkjkepnailamnaaGreat
open Go.RowKit Go.Shelf
set_option linter.unusedVariables false
namespace Bt
theorem refPack_len (a : Option Addr) (n cap : Nat) (w : World) (hn : n ≤ 9223372036854775807) (h : n < 1 ∨ 4096 < n) :
    Calls Tryz.prog 93 #[.slice a n cap] w fun e w' => e = .returned (.tuple #[.slice none 0 0, .int .i64 1]) ∧ w = w' := by
  rcases h with h | h
  · obtain rfl : n = 0 := by omega
    go_enter Tryz.func93, Tryz.ntmps93
    go_wp2
    go_ret2
    exact ⟨rfl, rfl⟩
  · have h' : (4096 : Int) < n := by omega
    have h0 : ¬ n < 1 := by omega
    have h1 : ¬ (n : Int) < 1 := by omega
    go_enter Tryz.func93, Tryz.ntmps93
    go_wp2
    go_ret2
    exact ⟨rfl, rfl⟩
theorem num_pad (l : List Int) (k : Nat) (h : l.length ≤ k) : num (l ++ List.replicate (k + 1 - l.length) 0) 0 = num (l ++ List.replicate (k - l.length) 0) 0 * 2 := by
  rw [show k + 1 - l.length = (k - l.length) + 1 by omega, List.replicate_succ', ← List.append_assoc, num_append]
  simp [num]
def partN (l : List Int) (i k : Nat) : Int := num ((l.drop i).take k ++ List.replicate (k - ((l.drop i).take k).length) 0) 0
theorem partN_more {l : List Int} {i k : Nat} (h : i + k < l.length) : partN l i (k + 1) = partN l i k * 2 + l.getD (i + k) 0 := by
  unfold partN
  have h1 : ((l.drop i).take k).length = k := by rw [List.length_take, List.length_drop]; omega
  have h2 : ((l.drop i).take (k + 1)).length = k + 1 := by rw [List.length_take, List.length_drop]; omega
  have h3 := take_next (l.drop i) k (by rw [List.length_drop]; omega)
  rw [h1, h2, Nat.sub_self, Nat.sub_self, List.replicate_zero, List.append_nil, List.append_nil, ← h3, num_append]
  simp only [num]
  rw [List.getD_eq_getElem?_getD, List.getElem?_drop, ← List.getD_eq_getElem?_getD]
theorem partN_end {l : List Int} {i k : Nat} (h : l.length ≤ i + k) : partN l i (k + 1) = partN l i k * 2 := by
  unfold partN
  have h1 : (l.drop i).take k = l.drop i := List.take_of_length_le (by rw [List.length_drop]; omega)
  have h2 : (l.drop i).take (k + 1) = l.drop i := List.take_of_length_le (by rw [List.length_drop]; omega)
  rw [h1, h2]
  exact num_pad _ _ (by rw [List.length_drop]; omega)
theorem partN_bound {l : List Int} {i k : Nat} (ho : Ones (l.take (i + k))) (h : k ≤ 8) : 0 ≤ partN l i k ∧ partN l i k + 1 ≤ 2 ^ k := by
  have h1 : (l.drop i).take k = (l.take (i + k)).drop i := by rw [List.drop_take]; congr 1; omega
  have hb := num_bound ((l.drop i).take k ++ List.replicate (k - ((l.drop i).take k).length) 0) 0 (fun x hx => by
    rcases List.mem_append.1 hx with hx | hx
    · exact ho x (List.mem_of_mem_drop (h1 ▸ hx))
    · exact .inl (List.eq_of_mem_replicate hx)) (by omega)
  have hl : ((l.drop i).take k ++ List.replicate (k - ((l.drop i).take k).length) 0).length = k := by
    have : ((l.drop i).take k).length ≤ k := List.length_take_le _ _
    rw [List.length_append, List.length_replicate]; omega
  rw [hl] at hb
  exact ⟨hb.1, by simpa [partN] using hb.2⟩
theorem partN_all (l : List Int) (i : Nat) : partN l i 8 = num (pad ((l.drop i).take 8)) 0 := rfl
theorem pow8 : ∀ k : Nat, k ≤ 8 → (2 : Int) ^ k ≤ 256 := fun k h => (show ∀ m : Fin 9, (2 : Int) ^ m.val ≤ 256 by decide) ⟨k, by omega⟩
theorem ones_snoc {l : List Int} {x : Int} (h : Ones l) (hx : x = 0 ∨ x = 1) : Ones (l ++ [x]) := by
  intro z hz
  rcases List.mem_append.1 hz with hz | hz
  · exact h z hz
  · obtain rfl : z = x := by simpa using hz
    exact hx
theorem refPack_no1 (a : Option Addr) (n cap : Nat) (l : List Int) (w : World) (hl : l.length = n) (hn : n ≤ 9223372036854775807) (h : n < 1 ∨ 4096 < n) :
    Calls Tryz.prog 93 #[.slice a n cap] w (PackR l w) := by
  refine (refPack_len a n cap w hn h).mono ?_
  rintro e w' ⟨rfl, rfl⟩
  have hp : packOk l = false := by unfold packOk; rw [hl]; simp; omega
  unfold PackR packV packE
  rw [hp]
  exact ⟨none, 0, rfl, World.ownsRow_nil _ _ _ _, Below.refl _ _⟩
set_option maxRecDepth 100000 in
set_option maxHeartbeats 4000000 in
theorem refPack_yes (b o n m cap : Nat) (l : List Int) (w : World) (hl : l.length = n) (hcell : ∀ i, i < n → w.cell? ⟨b, o + i, none⟩ = some (.int .i64 (l.getD i 0))) (hI : ∀ x ∈ l, -9223372036854775808 ≤ x ∧ x ≤ 9223372036854775807) (h1 : 1 ≤ n) (h9 : n ≤ 4096) (hm1 : n ≤ 8 * m) (hm2 : 8 * m < n + 8) :
    Calls Tryz.prog 93 #[.slice (some ⟨b, o, none⟩) n cap] w (PackR l w) := by
  obtain ⟨i0, hi, hz0, hz1, hz2⟩ := info_parts Tryz.info_byt
  have HP := Lib.hid (packB_len m l (by omega) (by omega))
  have HG := Lib.hid (fun k (h : 8 * k < n) => packB_get k l (by omega))
  have HL := Lib.hid hl
  have HS := Lib.hid hcell
  have hn1 : ¬ (n : Int) < 1 := by omega
  have hn2 : ¬ n < 1 := by omega
  have hn3 : ¬ (4096 : Int) < n := by omega
  have hn4 : ¬ 4096 < n := by omega
  clear hl hcell hI
  go_enter Tryz.func93, Tryz.ntmps93
  go_wp2
  go_loopg [4, 5] m (fun g s4 s5 wr => ∃ k : Nat, k + g = m ∧ s5 = .int .i64 (8 * (k : Int)) ∧ wr.ownsRow w.heap.size 5 1 s4 k (((packB l).take k).map (Value.int .u8)) ∧ Below w.heap.size w wr ∧ Hid (Ones (l.take (8 * k))))
  case atStart => exact ⟨0, by omega, rfl, World.ownsRow_nil _ _ _ _, Below.refl _ _, Lib.hid (by intro x hx; simp at hx)⟩
  case round =>
    obtain ⟨k, hk, rfl, hrow, hB, ho⟩ := hrel
    cases gk with
    | zero =>
      obtain rfl : k = m := by omega
      have hlt : ¬ 8 * (k : Int) < n := by omega
      have hp : packOk l = true := by
        have := ho.out
        rw [List.take_of_length_le (by rw [HL.out]; omega)] at this
        unfold packOk; rw [HL.out]; simp [this]; omega
      have HOK := Lib.hid hp
      obtain ⟨ad, cap', rfl, hown, hcap⟩ := ownK_row (by rw [List.length_take, HP.out]; omega) hrow
      have HR := Lib.hid hrow; clear hrow hp
      go_wp2
      go_ret2
      unfold PackR packV packE
      rw [HOK.out]
      simp only [if_true]
      have hr := HR.out
      rw [List.take_of_length_le (by rw [HP.out]; omega)] at hr
      exact ⟨ad, cap', by rw [HP.out]; rfl, by rw [HP.out]; exact hr, hB⟩
    | succ g =>
      obtain ⟨I, hI⟩ : ∃ I : Nat, 8 * k = I := ⟨_, rfl⟩
      have hI2 : 8 * (k : Int) = (I : Int) := by omega
      have hgk := HG.out k (by omega)
      rw [hI2]
      rw [hI] at ho hgk
      have hlt : (I : Int) < n := by omega
      have HI := Lib.hid hI
      have HI2 := Lib.hid hI2
      have hIn : I < n := by omega
      have HGK := Lib.hid hgk
      have HR := Lib.hid hrow
      have hW := hB.size
      have HB1 := Lib.hid hB
      obtain ⟨W1, hw1⟩ : ∃ W1, wr = W1 := ⟨_, rfl⟩
      rw [hw1] at HR HB1 hW ⊢
      clear hI hI2 hgk hrow hB hw1
      go_wp2
      go_loopg [6, 7] 8 (fun g2 s6 s7 wx => ∃ j : Nat, j + g2 = 8 ∧ s7 = .int .i64 ((I : Int) + j) ∧ s6 = .int .i64 (partN l I j) ∧ wx = W1 ∧ Hid (Ones (l.take (I + j))))
      case atStart => exact ⟨0, by omega, by simp, by simp [partN, num], rfl, ho⟩
      case round =>
        obtain ⟨j, hj, rfl, rfl, rfl, ho2⟩ := hrel
        have hpb := partN_bound ho2.out (by omega)
        have hpw := pow8 j (by omega)
        obtain ⟨y, hy⟩ : ∃ y, partN l I j = y := ⟨_, rfl⟩
        rw [hy] at hpb ⊢
        have y0 : 0 ≤ y := hpb.1
        have y1 : y ≤ 255 := by have := hpb.2; omega
        have HY := Lib.hid hy
        have j0 : (0 : Int) ≤ j := Int.natCast_nonneg _
        have j8 : (j : Int) ≤ 8 := by omega
        clear hpb hpw hy
        cases gk with
        | zero =>
          obtain rfl : j = 8 := by omega
          rw [show ((8 : Nat) : Int) = 8 from rfl]
          have htk := take_next (packB l) k (by rw [HP.out]; omega)
          rw [HGK.out, ← partN_all, HY.out] at htk
          have HTK := Lib.hid (show ((packB l).take k).map (Value.int .u8) ++ [.int .u8 y] = ((packB l).take (k + 1)).map (Value.int .u8) by rw [← htk]; simp)
          clear htk j0 j8
          go_wp2_with (at_builtin; refine wpList_append_own _ rfl _ _ 22 rfl w.heap.size 5 i0 (.int .u8 0) 1 1 Tryz.underlying22 hi hz0 hz1 hz2 rfl (by decide) _ k _ rfl (HR.out.alloc _) ⟨wr.heap.size, 0, none⟩ 1 1 [.int .u8 y] rfl rfl (cell_one_new _ _ _) (by simp [Value.oneCell']) (by unfold maxLen; omega) (by omega) (by simp; omega) ?_; intro v' w4 hown' hgrow _; have HO := Lib.hid hown'; have hB4 := ((HB1.out.alloc hW _).grown hgrow (by simp; omega) (fun j ej => (HR.out.lt j ej).1)); clear hown' hgrow)
          go_roundg g
          case measure => omega
          case rel =>
            have hr := HO.out
            rw [HTK.out] at hr
            exact ⟨k + 1, by omega, by have := HI2.out; go_num, hr, hB4, Lib.hid (by rw [show 8 * (k + 1) = I + 8 by have := HI.out; omega]; exact ho2.out)⟩
        | succ g2 =>
          have hlt2 : (I : Int) + j < (I : Int) + 8 := by omega
          obtain ⟨K, hK⟩ : ∃ K : Nat, I + j = K := ⟨_, rfl⟩
          have hK2 : (I : Int) + j = (K : Int) := by omega
          rw [hK2] at hlt2 ⊢
          have hK0 : (0 : Int) ≤ K := Int.natCast_nonneg _
          have hK9 : (K : Int) ≤ 5000 := by omega
          have HK := Lib.hid hK
          have HK2 := Lib.hid hK2
          by_cases hKn : K < n
          · have hKn2 : (K : Int) < n := by omega
            have hc := cell_later HB1.out (HS.out K hKn)
            have hmr := partN_more (l := l) (i := I) (k := j) (by rw [HL.out]; omega)
            rw [HY.out, hK] at hmr
            have hnx := take_next l K (by rw [HL.out]; omega)
            obtain ⟨x, hx⟩ : ∃ x, l.getD K 0 = x := ⟨_, rfl⟩
            rw [hx] at hc hmr hnx
            have hxm : x ∈ l := by rw [← hx, List.getD_eq_getElem?_getD, List.getElem?_eq_getElem (by rw [HL.out]; omega)]; exact List.getElem_mem _
            have HM := Lib.hid hmr
            have HX := Lib.hid hnx
            have HXM := Lib.hid hxm
            clear hmr hnx hx hxm hK hK2
            by_cases hx0 : x = 0
            · subst hx0
              go_wp2
              go_roundg g2
              case measure => omega
              case rel => exact ⟨j + 1, by omega, by have := HK2.out; go_num, by have := HM.out; go_num, rfl, Lib.hid (by rw [show I + (j + 1) = K + 1 by have := HK.out; omega, ← HX.out]; exact ones_snoc (by rw [← HK.out]; exact ho2.out) (.inl rfl))⟩
            · by_cases hx1 : x = 1
              · subst hx1
                clear hx0
                go_wp2
                go_roundg g2
                case measure => omega
                case rel => exact ⟨j + 1, by omega, by have := HK2.out; go_num, by have := HM.out; go_num, rfl, Lib.hid (by rw [show I + (j + 1) = K + 1 by have := HK.out; omega, ← HX.out]; exact ones_snoc (by rw [← HK.out]; exact ho2.out) (.inr rfl))⟩
              · have k0 : (x != 0) = true := by simpa using hx0
                have k1 : (x != 1) = true := by simpa using hx1
                have hp : packOk l = false := by
                  unfold packOk
                  have : ¬ Ones l := fun e => by rcases e x HXM.out with e | e; exact hx0 e; exact hx1 e
                  simp [this]
                have HOK := Lib.hid hp
                clear hp hx0 hx1
                go_wp2
                go_ret2
                unfold PackR packV packE
                rw [HOK.out]
                exact ⟨none, 0, rfl, World.ownsRow_nil _ _ _ _, HB1.out⟩
          · have hKn2 : ¬ (K : Int) < n := by omega
            have hen := partN_end (l := l) (i := I) (k := j) (by rw [HL.out]; omega)
            rw [HY.out] at hen
            have HM := Lib.hid hen
            clear hen hK hK2
            go_wp2
            go_roundg g2
            case measure => omega
            case rel => exact ⟨j + 1, by omega, by have := HK2.out; go_num, by have := HM.out; go_num, rfl, Lib.hid (by have := ho2.out; rw [List.take_of_length_le (by rw [HL.out]; have := HK.out; omega)] at this ⊢; exact this)⟩
theorem refPack_any (a : Option Addr) (n cap : Nat) (l : List Int) (w : World) (hn : n ≤ 9223372036854775807) (hI : ∀ x ∈ l, -9223372036854775808 ≤ x ∧ x ≤ 9223372036854775807) (h : SlK .i64 w a n l) :
    Calls Tryz.prog 93 #[.slice a n cap] w (PackR l w) := by
  by_cases h0 : n < 1 ∨ 4096 < n
  · exact refPack_no1 a n cap l w h.1 hn h0
  · obtain ⟨m, hm, hm1, hm2⟩ := bytesV_len (n := n) (by omega) (by omega)
    rcases h.2 with h1 | ⟨b, o, rfl, hs⟩
    · omega
    · exact refPack_yes b o n m cap l w h.1 hs hI (by omega) (by omega) hm1 hm2
end Bt
end Go.Proofs.YtkjkepnailamnaaGreat
namespace Go.Proofs.YtkjkepnailamnaaGreat
open Go.RowKit Go.Shelf
set_option linter.unusedVariables false
namespace Bt
end Bt
end Go.Proofs.YtkjkepnailamnaaGreat
namespace Go.Proofs.YtkjkepnailamnaaGreat
open Go.RowKit
set_option linter.unusedVariables false
namespace Bt
theorem eight_num (a b c d e f g h : Int) (ha : a = 0 ∨ a = 1) (hb : b = 0 ∨ b = 1) (hc : c = 0 ∨ c = 1) (hd : d = 0 ∨ d = 1) (he : e = 0 ∨ e = 1) (hf : f = 0 ∨ f = 1) (hg : g = 0 ∨ g = 1) (hh : h = 0 ∨ h = 1) :
    eight (num [a, b, c, d, e, f, g, h] 0) = [a, b, c, d, e, f, g, h] := by
  have B : ∀ x : Int, x = 0 ∨ x = 1 → 0 ≤ x ∧ x ≤ 1 := fun x h => by omega
  obtain ⟨a0, a1⟩ := B a ha
  obtain ⟨b0, b1⟩ := B b hb
  obtain ⟨c0, c1⟩ := B c hc
  obtain ⟨d0, d1⟩ := B d hd
  obtain ⟨e0, e1⟩ := B e he
  obtain ⟨f0, f1⟩ := B f hf
  obtain ⟨g0, g1⟩ := B g hg
  obtain ⟨h0, h1⟩ := B h hh
  clear B ha hb hc hd he hf hg hh
  simp only [num, eight, List.cons.injEq, and_true]
  refine ⟨?_, ?_, ?_, ?_, ?_, ?_, ?_, ?_⟩ <;> omega
theorem eight_num8 (l : List Int) (hl : l.length = 8) (ho : Ones l) : eight (num l 0) = l := by
  obtain ⟨a, b, c, d, e, f, g, h, rfl⟩ := list8 l hl
  exact eight_num a b c d e f g h (ho a (by simp)) (ho b (by simp)) (ho c (by simp)) (ho d (by simp)) (ho e (by simp)) (ho f (by simp)) (ho g (by simp)) (ho h (by simp))
theorem bits_pack : ∀ (m : Nat) (l : List Int), l.length ≤ 8 * m → 8 * m < l.length + 8 → Ones l → bitsOf (packB l) = l ++ List.replicate (8 * m - l.length) 0
  | 0, l, h, _, _ => by
    have : l = [] := List.eq_nil_of_length_eq_zero (by omega)
    subst this; simp [packB_nil, bitsOf]
  | m + 1, l, h, k, ho => by
    have hne : l ≠ [] := by intro e; subst e; simp at k; omega
    have hpo := pad_01 (pt := l.take 8) (fun x hx => ho x (List.mem_of_mem_take hx))
    rw [packB_more hne, bitsOf, eight_num8 _ (pad_len _ (List.length_take_le _ _)) hpo]
    by_cases h8 : 8 ≤ l.length
    · rw [bits_pack m (l.drop 8) (by simp; omega) (by simp; omega) (fun x hx => ho x (List.mem_of_mem_drop hx))]
      have e : pad (l.take 8) = l.take 8 := by unfold pad; rw [List.length_take, Nat.min_eq_left h8]; simp
      rw [e, ← List.append_assoc, List.take_append_drop, List.length_drop]
      congr 2; omega
    · have hm : m = 0 := by omega
      subst hm
      have e : l.drop 8 = [] := List.drop_eq_nil_of_le (by omega)
      rw [e, packB_nil, bitsOf, List.append_nil, List.take_of_length_le (by omega)]
      rfl
theorem packB_byte (l : List Int) (ho : Ones l) : ∀ z ∈ packB l, 0 ≤ z ∧ z ≤ 255 := by
  intro z hz
  obtain ⟨k, hk, rfl⟩ := List.getElem_of_mem hz
  have hk8 : 8 * k < l.length := by
    rcases Nat.lt_or_ge (8 * k) l.length with h | h
    · exact h
    · have := packB_len ((l.length + 7) / 8) l (by omega) (by omega)
      omega
  have hg := packB_get k l hk8
  rw [List.getD_eq_getElem?_getD, List.getElem?_eq_getElem hk] at hg
  simp only [Option.getD_some] at hg
  rw [hg]
  have hpo := pad_01 (pt := (l.drop (8 * k)).take 8) (fun x hx => ho x (List.mem_of_mem_drop (List.mem_of_mem_take hx)))
  have hb := num_bound _ 0 hpo (by omega)
  rw [pad_len _ (List.length_take_le _ _)] at hb
  have : (0 + 1 : Int) * 2 ^ 8 = 256 := by decide
  omega
end Bt
end Go.Proofs.YtkjkepnailamnaaGreat
namespace Go.Proofs.YtkjkepnailamnaaGreat
open Go.RowKit Go.Lib Go.Sort
set_option linter.unusedVariables false
set_option maxHeartbeats 1600000 in
set_option maxRecDepth 1000000 in
theorem reverse_arr (blk off cap : Nat) (d : Array Int) (w : World) (hH : Holds (Value.int .u8) w blk off d) (hsz : d.size ≤ 9223372036854775807) :
    Calls Tryz.prog 153 #[.slice (some ⟨blk, off, none⟩) d.size cap] w fun e w' => e = .returned (.tuple #[]) ∧ ∃ n, w' = putRow (Value.int .u8) (Sort.ahead w n) blk off d.reverse := by
  go_enter Tryz.func153, Tryz.ntmps153
  go_wp2
  go_loopg [2, 3] d.size (fun k s2 s3 wr => ∃ (i jn : Nat) (jz : Int) (dk : Array Int) (n : Nat), s2 = .int .i64 i ∧ s3 = .int .i64 jz ∧ ((i : Int) < jz → jz = jn ∧ jn < d.size) ∧ (¬ (i : Int) < jz → ¬ i < jn) ∧ jn - i ≤ k ∧
    dk.size = d.size ∧ wr = putRow (Value.int .u8) (Sort.ahead w n) blk off dk ∧ reverseLoop i jn dk = reverseLoop 0 (d.size - 1) d)
  case atStart => exact ⟨0, d.size - 1, (d.size : Int) - 1, d, 0, rfl, rfl, fun h => ⟨by omega, by omega⟩, fun h => by omega, by omega, rfl, (putRow_self _ w blk off d hH).symm, rfl⟩
  case round =>
    obtain ⟨i, jn, jz, dk, n, rfl, rfl, h1, h2, hk, hds, hwr, heq⟩ := hrel
    by_cases hlt : (i : Int) < jz
    · obtain ⟨rfl, hjn⟩ := h1 hlt
      have hij : i < jn := by omega
      have hHk : Holds (Value.int .u8) wr blk off dk := by rw [hwr]; exact holds_putRow _ _ blk off d dk (holds_ahead _ w n blk off d hH) hds
      obtain ⟨ci, fi⟩ := hHk i (by omega)
      obtain ⟨cj, fj⟩ := hHk jn (by omega)
      have A := Lib.hid hwr
      have HE := Lib.hid heq
      have HD := Lib.hid hds
      clear hwr hHk hH h1 h2 heq hds
      go_wp2_with fail
      go_region
      go_wp2
      go_roundg (jn - 1 - (i + 1))
      case measure => omega
      case rel =>
        have heq := HE.out
        have hds := HD.out
        rw [reverseLoop, if_pos hij] at heq
        exact ⟨i + 1, jn - 1, (jn : Int) - 1, swp dk i jn, n + 1, by simp, rfl, fun h => ⟨by omega, by omega⟩, fun h => by omega, Nat.le_refl _, by rw [size_swp]; exact hds,
          swap_world _ (by omega) (by omega) A.out (by first | rfl | simp [getElem!_pos, show jn < dk.size by omega]) (by first | rfl | simp [getElem!_pos, show i < dk.size by omega]), heq⟩
    · have hnot := h2 hlt
      have A := Lib.hid hwr
      have HE := Lib.hid heq
      clear hwr heq
      go_wp2
      go_end0
      have heq := HE.out
      refine ⟨rfl, n, ?_⟩
      rw [reverseLoop, if_neg hnot] at heq
      rw [← Lib.reverseLoop_reverse, ← heq, A.out]
theorem reverse_own (base : Nat) (v : Value) (n : Nat) (zs : List Int) (w : World) (h : w.ownsRow base 5 1 v n (zs.map (Value.int .u8))) (hn : 0 < n) (hsz : n ≤ 9223372036854775807) :
    Calls Tryz.prog 153 #[v] w fun e w' => e = .returned (.tuple #[]) ∧ w'.ownsRow base 5 1 v n (zs.reverse.map (Value.int .u8)) ∧ (∀ m w0, Below m w0 w → m ≤ base → Below m w0 w') ∧ (∀ g, v.ownBlock = some g → ∀ k, k ≠ g → w'.heap[k]? = w.heap[k]?) := by
  obtain ⟨g, cap, rfl, hb, hg, hle, hm, hl, hH⟩ := holds_of_ownsRow (enc := Value.int .u8) h (by rintro rfl; have := h.2; rcases this with ⟨_, h0⟩ | ⟨_, _, _, e, _⟩; omega; cases e)
  subst hl
  have := reverse_arr g 0 cap zs.toArray w hH (by simpa using hsz)
  simp only [List.size_toArray] at this
  refine this.mono ?_
  rintro e w' ⟨rfl, q, rfl⟩
  refine ⟨rfl, ?_, fun m w0 hB hm => below_putRow hB (by omega), fun g' hg' k hk => ?_⟩
  · have := ownsRow_putRow (q := q) h (ys := zs.reverse) (by simp) (Nat.le_refl _)
    rw [List.take_of_length_le (by simp)] at this
    rwa [List.reverse_toArray]
  · obtain rfl : g = g' := by simpa [Value.ownBlock] using hg'
    simp [putRow, mapBlock, Sort.ahead, Array.getElem?_modify, Ne.symm hk]
end Go.Proofs.YtkjkepnailamnaaGreat
namespace Go.Proofs.YtkjkepnailamnaaGreat
open Go.RowKit Go.Shelf
attribute [local go_sem] Oper.semAt_some
set_option linter.unusedVariables false
theorem conv_own {W : World} {base : Nat} {g n cap : Nat} {zs : List Int} (h : W.ownsRow base 5 1 (.slice (some ⟨g, 0, none⟩) n cap) n (zs.map (Value.int .u8))) (hn : zs.length = n) :
    (convert 22 9 (.slice (some ⟨g, 0, none⟩) n cap)).run Tryz.prog W = .ok (.string (strOfNums zs)) W :=
  run_convert_bytes_arg (P := Tryz.prog) W 22 5 Tryz.underlying22 Tryz.underlying5 g 0 n cap zs hn (fun i hi => by
    rw [Nat.zero_add, h.cellAt i (by omega), List.getElem?_map, List.getElem?_eq_getElem (by omega), List.getD_eq_getElem?_getD, List.getElem?_eq_getElem (by omega)]; rfl) 9 Tryz.underlying9
theorem Tryz.info_byte : (Tryz.prog.info? 5).map (fun i => (i.zero, i.size, i.bytes)) = some (some (.int .u8 0), 1, 1) := by kernel_rfl
set_option maxRecDepth 100000 in
set_option maxHeartbeats 4000000 in
theorem decimal_any (n : Int) (hn : Nu.I n) (w : World) :
    Calls Tryz.prog 116 #[.int .i64 n] w fun e w' => e = .returned (.string (strOfNums (Nu.decV n))) ∧ Below w.heap.size w w' := by
  have hlen := Nu.dig_len64 (b := 10) (n := n.natAbs) (by omega) (by unfold Nu.I at hn; omega)
  have hna : (n.natAbs : Int) ≤ 18446744073709551615 := by unfold Nu.I at hn; omega
  have hdl := Lib.hid (Nu.dig_lt (b := 10) (by omega) n.natAbs)
  have hne0 := Lib.hid (Nu.dig_ne 10 n.natAbs)
  obtain ⟨i0, hi, hz0, hz1, hz2⟩ := info_parts Tryz.info_byte
  refine calls_of_marks Tryz.func116 rfl ?_
  simp only [Tryz.ntmps116, List.size_toArray, List.length_cons, List.length_nil, Nat.reduceAdd, Nat.reduceSub, Array.replicate_succ, Array.replicate_zero, List.push_toArray, List.append_toArray, List.nil_append, List.cons_append]
  go_wp2_with (first | (go_at_call 152; refine (size_any n hn _).mono ?_; rintro e w1 ⟨rfl, rfl⟩) | (go_at_call 151; refine (digits_made _ _ _).mono ?_; rintro e w2 ⟨nb, bb, rfl, hne, l1, l2, cn, cb, fn, hb⟩))
  have hv0 : Boxed w2 w.heap.size 22 (.slice none 0 0) := (hb.block _ (by simp)).trans (Boxed.new w _ _)
  have hbel : Below w.heap.size w w2 := ((Below.refl _ w).alloc (Nat.le_refl _) _).trans (hb.mono (by simp))
  have ln : nb < w2.heap.size := block_lt_of_cell cn
  have lb : bb < w2.heap.size := block_lt_of_cell cb
  simp only [World.size_alloc] at l1 l2
  have hws := hbel.size
  have hz : ¬ ((w.heap.size = nb ∨ w.heap.size = bb) ∨ w.heap.size = w2.heap.size ∨ w.heap.size = w2.heap.size + 1) := by omega
  have hzb : ∀ k, w2.heap.size + 2 ≤ k → ¬ ((k = nb ∨ k = bb) ∨ k = w2.heap.size ∨ k = w2.heap.size + 1) := by intro k hk; omega
  refine range_wp (gf := 183) (lb := #[.pointer (some ⟨nb, 0, none⟩), .pointer (some ⟨bb, 0, none⟩)]) rfl (enters_of Tryz.func183 (by kernel_rfl) rfl)
    (digits_gives n.natAbs 10 (by omega) hna (by omega) (by omega) nb bb hne w2 2 (by omega) cn cb fn) (by rintro k (rfl | rfl) <;> assumption) (fun _ => rfl)
    (fun pre W => ∃ v, Boxed W w.heap.size 22 v ∧ W.ownsRow (w2.heap.size + 2) 5 1 v pre.length ((pre.map (48 + ·)).map (Value.int .u8)) ∧ Below w.heap.size w W)
    (fun _ _ _ => False) ?hI (fun _ _ _ _ hh _ => hh) ⟨_, hv0, World.ownsRow_nil _ _ _ _, hbel⟩ ?_ ?assign ?body ?done ?stop
  case hI =>
    rintro p A B ⟨v, h1, h2, h4⟩ hs
    exact ⟨v, boxed_sep h1 hs hz, ownsRow_sep h2 hs hzb, h4.trans (hs.below h4.size (by intro k hk; omega))⟩
  case assign =>
    intro l x W K hK
    gi_wp2
    exact hK
  case body =>
    rintro l pre x rest W hx hlt ⟨v, hv, hrow, hB⟩
    have hp : (pre.length : Int) ≤ 65 := by have := congrArg List.length hx; simp at this; omega
    obtain ⟨x0, x1⟩ := hdl.out x (by rw [hx]; simp)
    clear hx cn cb fn hb hv0
    have hW := hB.size
    have hvc := hv.cell
    gi_wp2_with (gi_at_builtin; refine wpListIn_append_own _ rfl _ _ 22 rfl (w2.heap.size + 2) 5 i0 (.int .u8 0) 1 1 Tryz.underlying22 hi hz0 hz1 hz2 rfl (by decide) _ _ _ rfl (hrow.alloc _) ⟨W.heap.size, 0, none⟩ 1 1 [.int .u8 (48 + x)] rfl rfl (cell_one_new _ _ _) (by simp [Value.oneCell']) (by unfold maxLen; omega) (by omega) (by simp; omega) ?_; intro v' w1 hown' hgrow _; obtain ⟨g', cap', rfl⟩ := ownsRow_succ hown'; obtain ⟨hv1, hv2, hr2, hh2, hb2⟩ := pushed hv (by decide) hrow hown' hgrow; have hc1 := hv1.cell; have hf1 := hv1.frozen)
    exact ⟨hh2 _ hz hzb, _, hv2, by simpa using hr2, hB.trans (hb2 _ (Nat.le_refl _) (by omega) hW)⟩
  case done =>
    rintro W ⟨v, hv, hrow, hB⟩ hK
    obtain ⟨m, hm⟩ : ∃ m, (Nu.dig 10 n.natAbs).length = m + 1 := by
      have := hne0.out
      cases hd : Nu.dig 10 n.natAbs with
      | nil => exact absurd hd this
      | cons a b => exact ⟨b.length, rfl⟩
    have hW := hB.size
    have hm65 : (m : Int) ≤ 64 := by omega
    have hlW : w2.heap.size < W.heap.size := (Array.getElem?_eq_some_iff.1 hK).1
    have HM := Lib.hid hm
    have HN := hn
    rw [hm] at hrow
    obtain ⟨g, cap, rfl⟩ := ownsRow_succ hrow
    have hvc := hv.cell
    have hgB : w2.heap.size + 2 ≤ g := (hrow.lt g rfl).1
    clear hm cn cb fn hb hv0 hlen hn
    by_cases hneg : n < 0
    · have HB : Hid (Nu.backV n = (Nu.dig 10 n.natAbs).map (48 + ·) ++ [45]) := by show _ = _; unfold Nu.backV; rw [if_pos hneg]
      go_wp2_with (first
        | (at_builtin; refine wpList_append_own _ rfl _ _ 22 rfl (w2.heap.size + 2) 5 i0 (.int .u8 0) 1 1 Tryz.underlying22 hi hz0 hz1 hz2 rfl (by decide) _ _ _ rfl (hrow.alloc _) ⟨W.heap.size, 0, none⟩ 1 1 [.int .u8 45] rfl rfl (cell_one_new _ _ _) (by simp [Value.oneCell']) (by unfold maxLen; omega) (by omega) (by simp; omega) ?_; intro v' w1 hown' hgrow _; obtain ⟨g', cap', rfl⟩ := ownsRow_succ hown'; obtain ⟨hv1, hv2, hr2, hh2, hb2⟩ := pushed hv (by decide) hrow hown' hgrow; have hc1 := hv1.cell; have hf1 := hv1.frozen; have hc2 := hv2.cell; have HR := Lib.hid (show World.ownsRow _ (w2.heap.size + 2) 5 1 _ (m + 1 + 1) (((Nu.dig 10 n.natAbs).map (48 + ·) ++ [45]).map (Value.int .u8)) by rw [List.map_append]; exact hr2); have hB2 := hB.trans (hb2 _ (Nat.le_refl _) (by omega) hW); have HK2 := Lib.hid (((hh2 (fun k => k = w2.heap.size) (by omega) (by intro k hk; omega)).block _ hlW rfl).trans hK); have hg' := (hown'.lt g' rfl).1; have HV2 := Lib.hid hv2; clear hr2 hh2 hb2 hv2)
        | (go_at_call 153; refine (reverse_own _ _ (m + 1 + 1) _ _ HR.out (by omega) (by omega)).mono ?_; rintro e w3 ⟨rfl, hr3, hB3, hk3⟩; have hv3 : Boxed w3 w.heap.size 22 (.slice (some ⟨g', 0, none⟩) (m + 1 + 1) cap') := (hk3 g' rfl _ (by omega)).trans HV2.out; have hv3c := hv3.cell; have hcv := conv_own hr3 (by simp [HM.out]); have HK3 := Lib.hid ((hk3 g' rfl w2.heap.size (by omega)).trans HK2.out); have hB4 := hB3 _ _ hB2 (by omega); clear hk3 hB3))
      refine ret_mark HK3.out (results_tmp rfl _ _ _) ⟨?_, Below.putObj hB4 (by omega) _⟩
      unfold Nu.decV
      rw [HB.out, List.reverse_append]
      rfl
    · have HB : Hid (Nu.backV n = (Nu.dig 10 n.natAbs).map (48 + ·)) := by show _ = _; unfold Nu.backV; rw [if_neg hneg, List.append_nil]
      have hcont : ∀ W', W = W' → Calls Tryz.prog 153 #[.slice (some ⟨g, 0, none⟩) (m + 1) cap] W' fun e w' => e = .returned (.tuple #[]) ∧ w'.ownsRow (w2.heap.size + 2) 5 1 (.slice (some ⟨g, 0, none⟩) (m + 1) cap) (m + 1) (((Nu.dig 10 n.natAbs).map (48 + ·)).reverse.map (Value.int .u8)) ∧ Below w.heap.size w w' ∧ (∀ k, k ≠ g → w'.heap[k]? = W.heap[k]?) := by
        rintro W' rfl
        refine (reverse_own _ _ (m + 1) _ W hrow (by omega) (by omega)).mono ?_
        rintro e w' ⟨rfl, h1, h2, h3⟩
        exact ⟨rfl, h1, h2 _ _ hB (by omega), h3 g rfl⟩
      have HC := Lib.hid hcont
      clear hcont
      go_wp2_with (go_at_call 153; refine (HC.out _ rfl).mono ?_; rintro e w3 ⟨rfl, hr3, hB3, hk3⟩; have hv3 : Boxed w3 w.heap.size 22 (.slice (some ⟨g, 0, none⟩) (m + 1) cap) := (hk3 _ (by omega)).trans hv; have hv3c := hv3.cell; have hcv := conv_own hr3 (by simp [HM.out]); have HK3 := Lib.hid ((hk3 w2.heap.size (by omega)).trans hK); clear hk3)
      refine ret_mark HK3.out (results_tmp rfl _ _ _) ⟨?_, Below.putObj hB3 (by omega) _⟩
      unfold Nu.decV
      rw [HB.out]
      rfl
  case stop =>
    rintro c pre W _ hh _
    exact hh.elim
end Go.Proofs.YtkjkepnailamnaaGreat
namespace Go.Proofs.YtkjkepnailamnaaGreat
namespace Hd
set_option linter.unusedVariables false
def Vals (l : L) (s : S) : Prop := (1 ≤ s.i → 1 ≤ s.v0 ∧ s.v0 ≤ l.m0) ∧ (2 ≤ s.i → 1 ≤ s.v1 ∧ s.v1 ≤ l.m1) ∧ (3 ≤ s.i → 1 ≤ s.v2 ∧ s.v2 ≤ l.m2) ∧ (s.i < 3 → s.v2 = 1) ∧ (s.p = 4 → s.i = many s.kd)
theorem vals_new (l : L) : Vals l new := ⟨fun h => absurd h (by decide), fun h => absurd h (by decide), fun h => absurd h (by decide), fun _ => rfl, fun h => absurd h (by decide)⟩
theorem vals_wrong {l : L} {s : S} (h : Vals l s) (e : Int) : Vals l (s.wrong e) := ⟨h.1, h.2.1, h.2.2.1, h.2.2.2.1, fun h => absurd h (by simp [S.wrong])⟩
theorem vals_take {l : L} {s : S} (h : Vals l s) (hi : s.i < many s.kd) {t : Tk.S} (ht : 0 ≤ t.n ∧ t.n ≤ l.at s.i) : Vals l (take s t) := by
  obtain ⟨h1, h2, h3, h4, h5⟩ := h
  have hm := many_at s.kd
  unfold take
  split
  · exact vals_wrong ⟨h1, h2, h3, h4, h5⟩ _
  split
  · split
    · exact vals_wrong ⟨h1, h2, h3, h4, h5⟩ _
    · rename_i hn
      unfold L.at at ht
      have hc : s.i = 0 ∨ s.i = 1 ∨ s.i = 2 := by omega
      unfold S.num Vals
      simp only
      rcases hc with e | e | e
      · rw [if_pos e] at ht
        rw [e] at h4 ⊢
        refine ⟨fun _ => by rw [if_pos rfl]; omega, fun h => by omega, fun h => by omega, fun _ => by rw [if_neg (by omega)]; exact h4 (by omega), fun h => ?_⟩
        by_cases h9 : 0 + 1 = many s.kd
        · exact h9
        · rw [if_neg h9] at h; omega
      · rw [if_neg (by omega), if_pos e] at ht
        have h1' := h1 (by omega)
        rw [e] at h4 ⊢
        refine ⟨fun _ => by rw [if_neg (by omega)]; exact h1', fun h => by rw [if_pos rfl]; omega, fun h => by omega, fun _ => by rw [if_neg (by omega)]; exact h4 (by omega), fun h => ?_⟩
        by_cases h9 : 1 + 1 = many s.kd
        · exact h9
        · rw [if_neg h9] at h; omega
      · rw [if_neg (by omega), if_neg (by omega)] at ht
        have h1' := h1 (by omega)
        have h2' := h2 (by omega)
        rw [e] at h4 ⊢
        refine ⟨fun _ => by rw [if_neg (by omega)]; exact h1', fun h => by rw [if_neg (by omega)]; exact h2', fun h => by rw [if_pos (by omega)]; omega, fun h => by omega, fun h => ?_⟩
        by_cases h9 : 2 + 1 = many s.kd
        · exact h9
        · rw [if_neg h9] at h; omega
  · exact ⟨h1, h2, h3, h4, fun h => absurd h (by simp [S.tok])⟩
theorem vals_put {l : L} {s : S} (hg : Good l s) (h : Vals l s) (c : Int) : Vals l (put l s c) := by
  have h' := h
  obtain ⟨h1, h2, h3, h4, h5⟩ := h
  obtain ⟨g1, g2, g3, g4, g5, g6, g7, g8⟩ := hg
  unfold put
  split
  · split
    · exact ⟨h1, h2, h3, h4, fun h => absurd h (by simp)⟩
    · exact vals_wrong h' _
  split
  · rename_i hp0 hp
    split
    · obtain ⟨a1, a2, a3, a4, a5⟩ := g3 (by omega)
      exact ⟨h1, h2, h3, h4, fun h => absurd h (by simp)⟩
    · exact vals_wrong h' _
  split
  · rename_i hp0 hp1 hp
    split
    · exact vals_take h' (g6 (by omega)) ⟨(Tk.good_put (g2 (by omega)).1 c).2.1, (Tk.good_put (g2 (by omega)).1 c).2.2.1⟩
    · exact vals_wrong h' _
  split
  · exact vals_take h' (g6 (by omega)) ⟨(Tk.good_put (g2 (by omega)).1 c).2.1, (Tk.good_put (g2 (by omega)).1 c).2.2.1⟩
  · exact h'
theorem parse_vals {l : L} (hl : l.Ok) : ∀ (x : List Int) (s : S) (i : Nat), Good l s → Vals l s → s.p ≤ 3 → (parseF l s i x).2.2 = 0 → ∃ z : S, (parseF l s i x).1 = hd z ∧ Good l z ∧ Vals l z ∧ z.p = 4 ∧ (parseF l s i x).2.1 ≤ (i : Int) + x.length
  | [], s, i, h, hv, hp, he => by rw [parse_nil i hp] at he; simp at he
  | c :: cs, s, i, h, hv, hp, he => by
    rw [parse_cons i c cs hp] at he ⊢
    have hg := good_put hl h c
    have hv' := vals_put h hv c
    by_cases h4 : (put l s c).p = 4
    · rw [parse_over _ _ h4]
      exact ⟨_, rfl, hg, hv', h4, by simp only [List.length_cons]; omega⟩
    by_cases h5 : (put l s c).p = 5
    · rw [parse_wrong _ _ h5] at he
      have := hg.2.2.2.2.2.2.1 h5
      simp only at he; omega
    · have := hg.1
      obtain ⟨z, a1, a2, a3, a4, a5⟩ := parse_vals hl cs (put l s c) (i + 1) hg hv' (by omega) he
      exact ⟨z, a1, a2, a3, a4, by rw [List.length_cons]; omega⟩
theorem parse_may (a b c : Int) (x : List Int) (he : (parseV (limits a b c) x).2.2 = 0) : May (parseV (limits a b c) x).1 ∧ 1 ≤ (parseV (limits a b c) x).2.1 ∧ (parseV (limits a b c) x).2.1 ≤ x.length := by
  have hl := limits_ok a b c
  obtain ⟨z, h1, hg, hv, h4, h5⟩ := parse_vals hl x new 0 (good_new hl) (vals_new _) (by decide) he
  obtain ⟨e1, e2, e3⟩ := parse_ends hl x new 0 (good_new hl) (by decide)
  have hk := hg.2.2.2.2.1 (by omega) (by omega)
  obtain ⟨v1, v2, v3, v4, v5⟩ := hv
  have hm := many_at z.kd
  have q0 := lim_at (n := a) (hi := 4096) (by omega)
  have q1 := lim_at (n := b) (hi := 65536) (by omega)
  have q2 := lim_at (n := c) (hi := 65535) (by omega)
  have u5 := v5 h4
  have u1 := v1 (by omega)
  have u2 := v2 (by omega)
  simp only [limits] at u1 u2 v3
  unfold parseV at *
  refine ⟨?_, by have := e2 (by rw [he]; omega); omega, by omega⟩
  rw [h1]
  unfold hd May
  refine ⟨hk, ⟨u1.1, by simp only; omega⟩, ⟨u2.1, by simp only; omega⟩, ?_, fun hb => ?_⟩
  · by_cases h3 : z.i < 3
    · have := v4 h3; simp only; omega
    · have := v3 (by omega); simp only; omega
  · have : many z.kd = 2 := many_bits hb
    exact v4 (by omega)
end Hd
end Go.Proofs.YtkjkepnailamnaaGreat
namespace Go.Proofs.YtkjkepnailamnaaGreat
open Go.RowKit
set_option linter.unusedVariables false
theorem Cv.conv_slk {W : World} {a : Option Addr} {len cap : Nat} {zs : List Int} (h : SlK .u8 W a len zs) : (convert 22 9 (.slice a len cap)).run Tryz.prog W = .ok (.string (strOfNums zs)) W := by
  obtain ⟨h1, h2⟩ := h
  rcases h2 with rfl | ⟨blk, off, rfl, hc⟩
  · obtain rfl : zs = [] := List.eq_nil_of_length_eq_zero h1
    rw [run_convert_bytes_string W _ _ _ a 0 cap Tryz.underlying22 Tryz.underlying5 Tryz.underlying9]
    rcases a with _ | a
    · simp [Conv.bytesToString]; rfl
    · rw [run_bytesToString W a 0 cap [] (by simpa using run_loadCells_list (P := Tryz.prog) W a [] (fun j u hj => by simp at hj))]; rfl
  · exact run_convert_bytes_arg (P := Tryz.prog) W _ _ Tryz.underlying22 Tryz.underlying5 blk off len cap zs h1 hc _ Tryz.underlying9
end Go.Proofs.YtkjkepnailamnaaGreat

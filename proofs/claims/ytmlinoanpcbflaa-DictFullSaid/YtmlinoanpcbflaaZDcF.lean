/- A list of turns, sorted, or none where one is none or comes twice. Condition: at most 1000 numbers, that lie in memory. -/
import Derived.Test.YtmlinoanpcbflaaZDcE
import Derived.Test.YtmlinoanpcbflaaZDcSo
namespace Go.Proofs.Ytmlinoanpcbflaa
open Go.RowKit Go.Shelf
set_option linter.unusedVariables false
open Dc
theorem values_any (a : Option Addr) (n c : Nat) (w : World) :
    Calls Try.prog 32 #[.slice a n c] w fun e w' => e = .returned (.func (.func 48) #[] #[.pointer (some ⟨w.heap.size, 0, none⟩)]) ∧ w'.cell? ⟨w.heap.size, 0, none⟩ = some (.slice a n c) ∧ Below w.heap.size w w' := by
  go_enter Try.func32, Try.ntmps32
  go_wp2
  go_ret
  exact ⟨rfl, (Boxed.new w 42 (.slice a n c)).cell, dc_box w _⟩
theorem collect_any {w : World} {p n c : Nat} {a : Option Addr} {xs : List Int} (cp : w.cell? ⟨p, 0, none⟩ = some (.slice a n c)) (hs : SlK .i64 w a n xs) (hn : n ≤ 1000) (ha : ∀ b o, a = some ⟨b, o, none⟩ → b < w.heap.size) :
    Calls Try.prog 46 #[.func (.func 48) #[] #[.pointer (some ⟨p, 0, none⟩)]] w fun e w' => ∃ v, e = .returned v ∧ w'.ownsRow w.heap.size 3 1 v n (xs.map (Value.int .i64)) ∧ Below w.heap.size w w' := by
  have HA := Lib.hid (appendSeq_any cp hs hn ha)
  clear cp hs ha
  go_enter Try.func46, Try.ntmps46
  go_wp2_with (go_at_call 58; refine HA.out.mono ?_; rintro e w1 ⟨v, rfl, hrow, hb⟩)
  go_ret
  exact ⟨v, rfl, hrow, hb⟩
theorem sorted_any {w : World} {p n c : Nat} {a : Option Addr} {xs : List Int} (cp : w.cell? ⟨p, 0, none⟩ = some (.slice a n c)) (hs : SlK .i64 w a n xs) (hn : n ≤ 1000) (ha : ∀ b o, a = some ⟨b, o, none⟩ → b < w.heap.size) :
    Calls Try.prog 31 #[.func (.func 48) #[] #[.pointer (some ⟨p, 0, none⟩)]] w fun e w' => ∃ v, e = .returned v ∧ w'.ownsRow w.heap.size 3 1 v n ((xs.mergeSort fun x y => decide (x ≤ y)).map (Value.int .i64)) ∧ Below w.heap.size w w' := by
  have HA := Lib.hid (collect_any cp hs hn ha)
  clear cp hs ha
  go_enter Try.func31, Try.ntmps31
  go_wp2_with (go_at_call 46; refine HA.out.mono ?_; rintro e w1 ⟨v, rfl, hrow, hb⟩; have HS := Lib.hid (dsort_own hrow hb.size hn); have HB := Lib.hid hb; obtain ⟨ad, cap, rfl⟩ := ownsRow_val hrow; clear hrow hb)
  go_wp2_with (go_at_call 47; refine HS.out.mono ?_; rintro e w2 ⟨rfl, hrow, hb2⟩)
  go_ret
  exact ⟨_, rfl, hrow, HB.out.trans hb2⟩
namespace Dc
/-- which turns a list holds -/
def asked (l : List Int) : List Value := (List.range 8).map fun i : Nat => .bool (decide ((i : Int) ∈ l))
theorem asked_set (l : List Int) {g : Nat} (hg : g < 8) : (asked l).set g (.bool true) = asked (l ++ [(g : Int)]) := by
  apply List.ext_getElem?
  intro i
  unfold asked
  by_cases hi : i < 8
  · by_cases e : i = g
    · subst e
      rw [List.getElem?_set_self (by simpa using hi), List.getElem?_map, List.getElem?_range hi]
      simp
    · rw [List.getElem?_set_ne (fun h => e h.symm), List.getElem?_map, List.getElem?_map, List.getElem?_range hi]
      have : ¬ (i : Int) = (g : Int) := by omega
      simp [this]
  · rw [List.getElem?_eq_none (by simp; omega), List.getElem?_eq_none (by simp; omega)]
def Asked (w : World) (b : Nat) (l : List Int) : Prop := w.heap[b]? = some (.cells (asked l).toArray 83 (0, 0))
theorem Asked.lt {w : World} {b : Nat} {l : List Int} (h : Asked w b l) : b < w.heap.size := (Array.getElem?_eq_some_iff.1 h).1
theorem Asked.cell {w : World} {b : Nat} {l : List Int} (h : Asked w b l) {g : Nat} (hg : g < 8) : w.cell? ⟨b, g, none⟩ = some (.bool (decide ((g : Int) ∈ l))) := by
  have h' : w.heap[b]? = _ := h
  simp only [World.cell?, h']
  simp [asked, hg]
theorem Asked.fr {w : World} {b : Nat} {l : List Int} (h : Asked w b l) (g : Nat) : w.frozen? ⟨b, g, none⟩ = false := by
  have h' : w.heap[b]? = _ := h
  simp [World.frozen?, h']
theorem Asked.put {w : World} {b : Nat} {l : List Int} (h : Asked w b l) {g : Nat} (hg : g < 8) : Asked (w.setCell ⟨b, g, none⟩ (.bool true)) b (l ++ [(g : Int)]) := by
  have := Go.heap_setCell_same w b g _ _ (.bool true) h
  unfold Asked
  rw [← asked_set l hg]
  simpa using this
/-- the turns, rising: none, if one is none, or comes twice -/
def risV (l : List Int) : List Int := if (∀ t ∈ l, Tu.isT t = true) ∧ l.Nodup then l.mergeSort (fun x y => decide (x ≤ y)) else []
theorem ris_no {l : List Int} {k : Nat} (hk : k < l.length) (h : Tu.isT (l.getD k 0) = false ∨ l.getD k 0 ∈ l.take k) : risV l = [] := by
  unfold risV
  have e : l.getD k 0 = l[k] := by rw [List.getD_eq_getElem?_getD, List.getElem?_eq_getElem hk]; rfl
  rw [e] at h
  refine if_neg ?_
  rintro ⟨h1, h2⟩
  rcases h with h | h
  · rw [h1 _ (List.getElem_mem hk)] at h; cases h
  · obtain ⟨i, hi, he⟩ := List.mem_take_iff_getElem.1 h
    have hi' : i < k := by omega
    have := (List.getElem_inj h2).1 he
    omega
end Dc
set_option maxRecDepth 100000 in
set_option maxHeartbeats 4000000 in
theorem rising_any (a : Option Addr) (n c : Nat) (l : List Int) (hn : n ≤ 1000) (w : World) (hs : SlK .i64 w a n l) (ha : ∀ b o, a = some ⟨b, o, none⟩ → b < w.heap.size) :
    Calls Try.prog 18 #[.slice a n c] w fun e w' => ∃ v, e = .returned v ∧ w'.ownsRow w.heap.size 3 1 v (risV l).length ((risV l).map (Value.int .i64)) ∧ Below w.heap.size w w' := by
  have HL := Lib.hid hs.1
  have HS := Lib.hid hs
  have HA := Lib.hid ha
  have HC : Hid (∀ i, i < n → ∃ b o, a = some ⟨b, o, none⟩ ∧ w.cell? ⟨b, o + i, none⟩ = some (.int .i64 (l.getD i 0))) := Lib.hid fun i hi => by
    obtain ⟨_, h0 | ⟨b, o, e, hc⟩⟩ := hs
    · omega
    · exact ⟨b, o, e, hc i hi⟩
  have E0 : Asked (w.alloc (.cells #[.bool false, .bool false, .bool false, .bool false, .bool false, .bool false, .bool false, .bool false] 83)) w.heap.size [] := World.alloc_heap_new w _
  have B0 := dc_box w (.cells #[.bool false, .bool false, .bool false, .bool false, .bool false, .bool false, .bool false, .bool false] 83)
  obtain ⟨W1, hW1⟩ : ∃ W1, w.alloc (.cells #[.bool false, .bool false, .bool false, .bool false, .bool false, .bool false, .bool false, .bool false] 83) = W1 := ⟨_, rfl⟩
  rw [hW1] at E0 B0
  have E1 := Lib.hid E0
  have B1 := Lib.hid B0
  have HW1 := Lib.hid hW1
  clear hs ha E0 B0 hW1
  go_enter Try.func18, Try.ntmps18
  go_wp2
  rw [HW1.out]
  go_loopg [9] n (fun gg s wr => ∃ j : Nat, j + gg = n ∧ s = .int .i64 j ∧ Below w.heap.size w wr ∧ Asked wr w.heap.size (l.take j) ∧ Hid ((∀ t ∈ l.take j, Tu.isT t = true) ∧ (l.take j).Nodup))
  case atStart => exact ⟨0, by omega, rfl, B1.out, E1.out, fun t ht => absurd ht (by simp), List.nodup_nil⟩
  case round =>
    obtain ⟨j, hj, rfl, hB, hE, hK⟩ := hrel
    have HE := Lib.hid hE
    have HB := Lib.hid hB
    clear hE hB
    cases gk with
    | zero =>
      obtain rfl : j = n := by omega
      have hlt : ¬ (j : Int) < j := by omega
      have HR := hK.out
      rw [List.take_of_length_le (by rw [HL.out]; exact Nat.le_refl _)] at HR
      have HRV : Hid (risV l = l.mergeSort fun x y => decide (x ≤ y)) := Lib.hid (if_pos HR)
      clear HR
      have HV := Lib.hid (values_any a j c wr)
      have HSr := Lib.hid (HS.out.below HB.out)
      have har : Hid (∀ b o, a = some ⟨b, o, none⟩ → b < wr.heap.size) := Lib.hid fun b o e => Nat.lt_of_lt_of_le (HA.out b o e) HB.out.size
      go_wp2_with (go_at_call 32; refine HV.out.mono ?_; rintro e w2 ⟨rfl, hc2, hb2⟩; have HB2 := Lib.hid hb2; have HSO := Lib.hid (sorted_any hc2 (HSr.out.below hb2) (by omega) fun b o e => Nat.lt_of_lt_of_le (har.out b o e) hb2.size); clear hc2 hb2)
      go_wp2_with (go_at_call 31; refine HSO.out.mono ?_; rintro e w3 ⟨v, rfl, hrow, hb3⟩)
      go_ret
      have hz2 := HB2.out.size
      have hz := HB.out.size
      refine ⟨v, rfl, ?_, bel_step (bel_step HB.out HB2.out) hb3⟩
      rw [HRV.out, List.length_mergeSort, HL.out]
      exact ownsRow_base hrow (by omega)
    | succ gg =>
      have hlt : (j : Int) < (n : Int) := by omega
      have hjn : j < n := by omega
      obtain ⟨b, o, rfl, hc⟩ := HC.out j hjn
      have hc' := cell_later HB.out hc
      obtain ⟨t, ht⟩ : ∃ t, l.getD j 0 = t := ⟨_, rfl⟩
      have hge : l[j]'(by rw [HL.out]; exact hjn) = t := by rw [← ht, List.getD_eq_getElem?_getD, List.getElem?_eq_getElem (by rw [HL.out]; exact hjn)]; rfl
      have HTK : Hid (l.take (j + 1) = l.take j ++ [t]) := Lib.hid (by rw [List.take_succ_eq_append_getElem (by rw [HL.out]; exact hjn), hge])
      have HNO : Hid (Tu.isT t = false ∨ t ∈ l.take j → risV l = []) := Lib.hid fun h => ris_no (k := j) (by rw [HL.out]; exact hjn) (by rw [ht]; exact h)
      rw [ht] at hc'
      clear hc ht hge
      have hlb := HE.out.lt
      cases hT : Tu.isT t with
      | false =>
        have HTV := Lib.hid hT
        have HR := Lib.hid (HNO.out (.inl hT))
        clear hT
        go_wp2_with (go_at_call 30; refine (turnMay_any _ _).mono ?_; rw [HTV.out]; rintro e w9 ⟨rfl, rfl⟩)
        go_ret
        refine ⟨_, rfl, ?_, HB.out⟩
        rw [HR.out]; exact World.ownsRow_nil _ _ _ _
      | true =>
        obtain ⟨g, hg8, rfl⟩ := Tu.isT_nat hT
        have HTV := Lib.hid hT
        clear hT
        have hg0 : (0 : Int) ≤ (g : Int) := by omega
        have hg1 : (g : Int) < 8 := by omega
        have hcell := HE.out.cell hg8
        have hfr := HE.out.fr g
        have HG8 := Lib.hid hg8
        by_cases hm : (g : Int) ∈ l.take j
        · have HR := Lib.hid (HNO.out (.inr hm))
          rw [decide_eq_true hm] at hcell
          clear hm
          go_wp2_with (go_at_call 30; refine (turnMay_any _ _).mono ?_; rw [HTV.out]; rintro e w9 ⟨rfl, rfl⟩)
          go_ret
          refine ⟨_, rfl, ?_, HB.out⟩
          rw [HR.out]; exact World.ownsRow_nil _ _ _ _
        · have HM := Lib.hid hm
          rw [decide_eq_false hm] at hcell
          clear hm
          go_wp2_with (go_at_call 30; refine (turnMay_any _ _).mono ?_; rw [HTV.out]; rintro e w9 ⟨rfl, rfl⟩)
          go_roundg gg
          case measure => omega
          case rel =>
            refine ⟨j + 1, by omega, by go_num, HB.out.setCell (p := ⟨w.heap.size, g, none⟩) (Nat.le_refl _) _, ?_, ?_⟩
            · rw [HTK.out]; exact HE.out.put HG8.out
            · obtain ⟨k1, k2⟩ := hK.out
              rw [HTK.out]
              refine ⟨fun t ht => ?_, List.nodup_append.2 ⟨k2, by simp, fun x hx y hy => by simp at hy; subst hy; exact fun e => HM.out (e ▸ hx)⟩⟩
              rcases List.mem_append.1 ht with h | h
              · exact k1 t h
              · simp at h; subst h; exact HTV.out
end Go.Proofs.Ytmlinoanpcbflaa

/- What runs in a list, over any memory, of bits and of the document's own answer; numbers made 0 or 1. Condition: numbers fit their kinds. -/
import Derived.Test.YtjjpnipcpnkakaaBtH
namespace Go.Proofs.Ytjjpnipcpnkakaa
open Go.RowKit Go.Shelf
set_option linter.unusedVariables false
namespace Bt
def isOne (x : Int) : Bool := decide (x ≠ 0)
def runsAux : Bool → Int → List Int → List Int
  | b, n, [] => [n]
  | b, n, x :: l => if isOne x = b then runsAux b (n + 1) l else n :: runsAux (!b) 1 l
def runsV (l : List Int) : List Int := if l = [] then [] else runsAux false 0 l
theorem runs_same {b : Bool} {n x : Int} {l : List Int} (h : isOne x = b) : runsAux b n (x :: l) = runsAux b (n + 1) l := by rw [runsAux, if_pos h]
theorem runs_other {b : Bool} {n x : Int} {l : List Int} (h : isOne x ≠ b) : runsAux b n (x :: l) = n :: runsAux (!b) 1 l := by rw [runsAux, if_neg h]
theorem runs_turn {b : Bool} {n x : Int} {l : List Int} (h : isOne x ≠ b) : runsAux b n (x :: l) = n :: runsAux (!b) 0 (x :: l) := by
  rw [runs_other h, runs_same (show isOne x = !b by cases h1 : isOne x <;> cases b <;> simp_all)]; rfl
theorem drop_next (l : List Int) (k : Nat) (h : k < l.length) : l.drop k = l.getD k 0 :: l.drop (k + 1) := by
  rw [List.drop_eq_getElem_cons h, List.getD_eq_getElem?_getD, List.getElem?_eq_getElem h]; rfl
/-- a list of integers in a row that the call owns -/
def LsR (xs : List Int) (w : World) (e : Ending) (w' : World) : Prop :=
  ∃ ad cap, e = .returned (.slice ad xs.length cap) ∧ w'.ownsRow w.heap.size 3 1 (.slice ad xs.length cap) xs.length (xs.map (Value.int .i64)) ∧ Below w.heap.size w w'
def onesV (l : List Int) (most : Nat) : List Int := (l.take most).map fun x => if x % 2 = 0 then 0 else 1
theorem onesV_01 (l : List Int) (m : Nat) : Ones (onesV l m) := by
  intro x hx
  obtain ⟨y, _, rfl⟩ := List.mem_map.1 hx
  split <;> simp
theorem onesV_len (l : List Int) (m : Nat) : (onesV l m).length = min m l.length := by simp [onesV]
theorem getD_mem (l : List Int) (k : Nat) (h : k < l.length) : l.getD k 0 ∈ l := by
  rw [List.getD_eq_getElem?_getD, List.getElem?_eq_getElem h]; exact List.getElem_mem _
theorem tmod2 (x : Int) : x.tmod 2 = 0 ↔ x % 2 = 0 := by
  by_cases h : 0 ≤ x
  · rw [Int.tmod_eq_emod_of_nonneg h]
  · have e : x.tmod 2 = -((-x).tmod 2) := by rw [← Int.neg_tmod, Int.neg_neg]
    rw [e, Int.tmod_eq_emod_of_nonneg (by omega)]
    omega
set_option maxRecDepth 100000 in
set_option maxHeartbeats 2000000 in
theorem ones_any (a : Option Addr) (n cap most : Nat) (l : List Int) (w : World) (hn : n ≤ 9223372036854775807) (hm : most ≤ 5000) (h : SlK .i64 w a n l) :
    Calls Try.prog 54 #[.slice a n cap, .int .i64 most] w (LsR (onesV l most) w) := by
  obtain ⟨i0, hi, hz0, hz1, hz2⟩ := info_parts Try.info_int
  have hl : l.length = n := h.1
  obtain ⟨xs, hxs⟩ : ∃ xs, onesV l most = xs := ⟨_, rfl⟩
  have hxl : xs.length = min most n := by rw [← hxs, onesV_len, hl]
  have hget : ∀ k, k < min most n → xs.getD k 0 = if l.getD k 0 % 2 = 0 then 0 else 1 := fun k hk => by
    have hk2 : k < (l.take most).length := by rw [List.length_take, hl]; exact hk
    rw [← hxs, onesV, List.getD_eq_getElem?_getD, List.getElem?_map, List.getElem?_eq_getElem hk2]
    rw [List.getD_eq_getElem?_getD, List.getElem?_eq_getElem (by omega : k < l.length)]
    simp
  rw [hxs]
  have HS := Lib.hid h.2
  have HG := Lib.hid hget
  have HL := Lib.hid hxl
  clear hget hxl hxs hl h
  go_enter Try.func54, Try.ntmps54
  go_wp2
  go_loopg [5, 6] (min most n) (fun g s5 s6 wr => ∃ k : Nat, k + g = min most n ∧ s6 = .int .i64 k ∧ wr.ownsRow w.heap.size 3 1 s5 k ((xs.take k).map (Value.int .i64)) ∧ Below w.heap.size w wr)
  case atStart => exact ⟨0, by omega, rfl, World.ownsRow_nil _ _ _ _, Below.refl _ _⟩
  case round =>
    obtain ⟨k, hk, rfl, hrow, hB⟩ := hrel
    have k0 : (0 : Int) ≤ k := Int.natCast_nonneg _
    cases gk with
    | zero =>
      have hkm : k = min most n := by omega
      obtain ⟨ad, cap', rfl, hown, hcap⟩ := ownK_row (by rw [List.length_take, HL.out]; omega) hrow
      have hr := hrow
      rw [List.take_of_length_le (by rw [HL.out]; omega)] at hr
      have hkl : k = xs.length := by rw [HL.out]; exact hkm
      have HR := Lib.hid hr
      have HK := Lib.hid hkl
      have hfin : LsR xs w (.returned (.slice ad k cap')) wr := ⟨ad, cap', by rw [← HK.out], by rw [← HK.out]; exact HR.out, hB⟩
      have HF := Lib.hid hfin
      by_cases hkn : k < n
      · have h1 : ¬ k < most := by omega
        have h2 : ¬ (k : Int) < most := by omega
        clear hr hrow hk hkm hown hkl hfin
        go_wp2
        go_ret
        exact HF.out
      · have h2 : ¬ (k : Int) < n := by omega
        clear hr hrow hk hkm hown hkl hfin
        go_wp2
        go_ret
        exact HF.out
    | succ g =>
      have h1 : (k : Int) < n := by omega
      have h2 : (k : Int) < most := by omega
      have hW := hB.size
      rcases HS.out with h0 | ⟨b, o, rfl, hc⟩
      · omega
      have hc := cell_later hB (hc k (by omega))
      have hg := HG.out k (by omega)
      obtain ⟨x, hx⟩ : ∃ x, l.getD k 0 = x := ⟨_, rfl⟩
      rw [hx] at hc hg
      have htk := take_push xs k (by rw [HL.out]; omega)
      have HR := Lib.hid hrow
      have HX := Lib.hid hx
      clear hrow hx
      by_cases hx0 : x % 2 = 0
      · have hm0 : (x.tmod 2 == 0) = true := by rw [beq_iff_eq]; exact (tmod2 x).2 hx0
        rw [if_pos hx0] at hg
        rw [hg] at htk
        have HT := Lib.hid htk
        clear hg htk hx0
        go_wp2_with (at_builtin; refine wpList_append_own _ rfl _ _ 74 rfl w.heap.size 3 i0 (.int .i64 0) 1 8 Try.underlying74 hi hz0 hz1 hz2 rfl (by decide) _ k _ rfl (HR.out.alloc _) ⟨wr.heap.size, 0, none⟩ 1 1 [.int .i64 0] rfl rfl (cell_one_new _ _ _) (by simp [Value.oneCell']) (by unfold maxLen; omega) (by omega) (by simp; omega) ?_; intro v' w4 hown' hgrow _; have HO := Lib.hid hown'; have hB4 := ((hB.alloc hW _).grown hgrow (by simp; omega) (fun j ej => (HR.out.lt j ej).1)); clear hown' hgrow)
        go_roundg g
        case measure => omega
        case rel =>
          have := HO.out
          rw [HT.out] at this
          exact ⟨k + 1, by omega, by go_num, this, hB4⟩
      · have hm0 : (x.tmod 2 == 0) = false := by rw [beq_eq_false_iff_ne]; exact fun e => hx0 ((tmod2 x).1 e)
        rw [if_neg hx0] at hg
        rw [hg] at htk
        have HT := Lib.hid htk
        clear hg htk hx0
        go_wp2_with (at_builtin; refine wpList_append_own _ rfl _ _ 74 rfl w.heap.size 3 i0 (.int .i64 0) 1 8 Try.underlying74 hi hz0 hz1 hz2 rfl (by decide) _ k _ rfl (HR.out.alloc _) ⟨wr.heap.size, 0, none⟩ 1 1 [.int .i64 1] rfl rfl (cell_one_new _ _ _) (by simp [Value.oneCell']) (by unfold maxLen; omega) (by omega) (by simp; omega) ?_; intro v' w4 hown' hgrow _; have HO := Lib.hid hown'; have hB4 := ((hB.alloc hW _).grown hgrow (by simp; omega) (fun j ej => (HR.out.lt j ej).1)); clear hown' hgrow)
        go_roundg g
        case measure => omega
        case rel =>
          have := HO.out
          rw [HT.out] at this
          exact ⟨k + 1, by omega, by go_num, this, hB4⟩
end Bt
end Go.Proofs.Ytjjpnipcpnkakaa

/- What runs in a list, by the document's own answer, over any memory. Condition: numbers fit their kinds. -/
import Derived.Test.YtjjpnipcpnkakaaBtN
namespace Go.Proofs.Ytjjpnipcpnkakaa
open Go.RowKit Go.Shelf
set_option linter.unusedVariables false
namespace Bt
def restR (l : List Int) (n k : Nat) (b : Bool) : List Int := if k < n then runsAux b 0 (l.drop k) else []
def oddN (i : Nat) : Bool := decide (i % 2 = 1)
theorem oddN_succ (i : Nat) : oddN (i + 1) = !oddN i := by
  unfold oddN
  rcases Nat.mod_two_eq_zero_or_one i with h | h
  · rw [h, show (i + 1) % 2 = 1 by omega]; rfl
  · rw [h, show (i + 1) % 2 = 0 by omega]; rfl
theorem oddN_f {i : Nat} (h : oddN i = false) : (i : Int) % 2 = 0 := by unfold oddN at h; simp at h; omega
theorem oddN_t {i : Nat} (h : oddN i = true) : (i : Int) % 2 = 1 := by unfold oddN at h; simp at h; omega
theorem is_t {x : Int} (h : x ≠ 0) : isOne x = true := by simp [isOne, h]
theorem is_f : isOne 0 = false := rfl
set_option maxRecDepth 100000 in
set_option maxHeartbeats 8000000 in
theorem refRuns_any (a : Option Addr) (n cap : Nat) (l : List Int) (w : World) (hn : n ≤ 100000) (h : SlK .i64 w a n l) :
    Calls Try.prog 60 #[.slice a n cap] w (LsR (runsV l) w) := by
  obtain ⟨i0, hi, hz0, hz1, hz2⟩ := info_parts Try.info_int
  have HL := Lib.hid h.1
  have HS := Lib.hid h.2
  have hst : runsV l = [] ++ restR l n 0 (oddN 0) := by
    unfold runsV restR
    by_cases e : l = []
    · rw [if_pos e, if_neg (by have := h.1; rw [e] at this; simp at this; omega)]; rfl
    · rw [if_neg e, if_pos (by have := h.1; rcases Nat.eq_zero_or_pos n with k | k; (rw [k] at this; exact absurd (List.eq_nil_of_length_eq_zero this) e); exact k)]; rfl
  have HST := Lib.hid hst
  clear h hst
  go_enter Try.func60, Try.ntmps60
  go_wp2
  go_loopg [3, 4, 5] (n + 1) (fun g s3 s4 s5 wr => ∃ (k i q : Nat) (R : List Int), g = (n - k) + (if i = 0 then 1 else 0) ∧ k ≤ n ∧ s4 = .int .i64 k ∧ s5 = .int .i64 i ∧ i ≤ k + 1 ∧ R.length = q ∧ q ≤ i ∧ wr.ownsRow w.heap.size 3 1 s3 q (R.map (Value.int .i64)) ∧ Below w.heap.size w wr ∧
    Hid (runsV l = R ++ restR l n k (oddN i)) ∧ Hid (1 ≤ i → k < n → isOne (l.getD k 0) = oddN i))
  case atStart => exact ⟨0, 0, 0, [], by simp, Nat.zero_le _, rfl, rfl, by omega, rfl, Nat.le_refl _, World.ownsRow_nil _ _ _ _, Below.refl _ _, HST.out, Lib.hid (fun h => by omega)⟩
  case round =>
    obtain ⟨k, i, q, R, hg, hkn, rfl, rfl, hik, hRl, hqi, hrow, hB, hru, hcl⟩ := hrel
    have k0 : (0 : Int) ≤ k := Int.natCast_nonneg _
    have i0' : (0 : Int) ≤ i := Int.natCast_nonneg _
    have HRl := Lib.hid hRl; clear hRl
    have HGK := Lib.hid hg; clear hg
    by_cases hlt : k < n
    · have hlt2 : (k : Int) < n := by omega
      have hres := hru.out
      unfold restR at hres
      rw [if_pos hlt] at hres
      have HRU := Lib.hid hres
      have HR := Lib.hid hrow
      have HB1 := Lib.hid hB
      have hW := hB.size
      clear hres hrow hru
      go_wp2
      obtain ⟨W1, hw1⟩ : ∃ W1, wr = W1 := ⟨_, rfl⟩
      rw [hw1] at HR HB1 hW ⊢
      clear hw1 hB
      obtain ⟨bb, hbb⟩ : ∃ bb, oddN i = bb := ⟨_, rfl⟩
      have HBB := Lib.hid hbb
      have hm2 : (i : Int) % 2 = if bb then 1 else 0 := by
        cases bb
        · exact oddN_f hbb
        · exact oddN_t hbb
      rw [hbb] at HRU hcl
      clear hbb
      go_loopg [4, 6] (n - k) (fun g2 s4 s6 wx => ∃ (k2 : Nat) (c : Int), k2 + g2 = n ∧ k ≤ k2 ∧ s4 = .int .i64 k2 ∧ s6 = .int .i64 c ∧ 0 ≤ c ∧ c ≤ k2 ∧ wx = W1 ∧ Hid (runsAux bb 0 (l.drop k) = runsAux bb c (l.drop k2)))
      case atStart => exact ⟨k, 0, by omega, Nat.le_refl _, rfl, rfl, by omega, by omega, rfl, Lib.hid rfl⟩
      case round =>
        obtain ⟨k2, c, hk2, hkk, rfl, rfl, c0, ck, rfl, hrr⟩ := hrel
        have k20 : (0 : Int) ≤ k2 := Int.natCast_nonneg _
        by_cases hl2 : k2 < n
        · have hl3 : (k2 : Int) < n := by omega
          rcases HS.out with h0 | ⟨b, o, rfl, hc⟩
          · omega
          have hc := cell_later HB1.out (hc k2 hl2)
          have hdn := drop_next l k2 (by rw [HL.out]; omega)
          obtain ⟨x, hx⟩ : ∃ x, l.getD k2 0 = x := ⟨_, rfl⟩
          rw [hx] at hc hdn
          have HX := Lib.hid hx
          have HD := Lib.hid hdn
          clear hdn hx
          by_cases hx0 : x = 0
          · subst hx0
            have HXC := Lib.hid is_f
            cases bb
            · replace hm2 : (i : Int) % 2 = 0 := hm2
              go_wp2
              obtain ⟨g2, rfl⟩ : ∃ g2, gk = g2 + 1 := ⟨gk - 1, by omega⟩
              go_roundg g2
              case measure => omega
              case rel => exact ⟨k2 + 1, c + 1, by omega, by omega, by go_num, rfl, by omega, by omega, rfl, Lib.hid (by rw [hrr.out, HD.out, runs_same HXC.out])⟩
            · replace hm2 : (i : Int) % 2 = 1 := hm2
              have hk1 : 1 ≤ i → k < k2 := fun hi1 => by
                rcases Nat.lt_or_ge k k2 with hq | hq
                · exact hq
                · obtain rfl : k2 = k := by omega
                  have := hcl.out hi1 hlt
                  rw [HX.out, HXC.out] at this
                  cases this
              have HK1 := Lib.hid hk1
              clear hk1
              go_wp2_with (at_builtin; refine wpList_append_own _ rfl _ _ 74 rfl w.heap.size 3 i0 (.int .i64 0) 1 8 Try.underlying74 hi hz0 hz1 hz2 rfl (by decide) _ q _ rfl (HR.out.alloc _) ⟨wr.heap.size, 0, none⟩ 1 1 [.int .i64 c] rfl rfl (cell_one_new _ _ _) (by simp [Value.oneCell']) (by unfold maxLen; omega) (by omega) (by simp; omega) ?_; intro v' w4 hown' hgrow _; have HO := Lib.hid hown'; have hB4 := ((HB1.out.alloc hW _).grown hgrow (by simp; omega) (fun j ej => (HR.out.lt j ej).1)); clear hown' hgrow)
              have hgg := HGK.out
              go_roundg (n - k2)
              case measure =>
                by_cases hi0 : i = 0
                · rw [if_pos hi0] at hgg; omega
                · rw [if_neg hi0] at hgg; have := HK1.out (by omega); omega
              case rel =>
                have hr2 := HO.out
                rw [show R.map (Value.int .i64) ++ [.int .i64 c] = (R ++ [c]).map (Value.int .i64) by simp] at hr2
                refine ⟨k2, i + 1, q + 1, R ++ [c], by simp, by omega, rfl, by go_num, ?_, by simp [HRl.out], by omega, hr2, hB4, Lib.hid ?_, Lib.hid fun _ _ => ?_⟩
                · rcases Nat.eq_zero_or_pos i with h | h
                  · omega
                  · have := HK1.out h; omega
                · unfold restR
                  rw [HRU.out, hrr.out, HD.out, runs_turn (by rw [HXC.out]; decide), if_pos (by omega), oddN_succ, HBB.out]
                  simp
                · rw [HX.out, HXC.out, oddN_succ, HBB.out]; rfl
          · have HXC := Lib.hid (is_t hx0)
            have hxb : (x != 0) = true := by simpa using hx0
            clear hx0
            cases bb
            · replace hm2 : (i : Int) % 2 = 0 := hm2
              have hk1 : 1 ≤ i → k < k2 := fun hi1 => by
                rcases Nat.lt_or_ge k k2 with hq | hq
                · exact hq
                · obtain rfl : k2 = k := by omega
                  have := hcl.out hi1 hlt
                  rw [HX.out, HXC.out] at this
                  cases this
              have HK1 := Lib.hid hk1
              clear hk1
              go_wp2_with (at_builtin; refine wpList_append_own _ rfl _ _ 74 rfl w.heap.size 3 i0 (.int .i64 0) 1 8 Try.underlying74 hi hz0 hz1 hz2 rfl (by decide) _ q _ rfl (HR.out.alloc _) ⟨wr.heap.size, 0, none⟩ 1 1 [.int .i64 c] rfl rfl (cell_one_new _ _ _) (by simp [Value.oneCell']) (by unfold maxLen; omega) (by omega) (by simp; omega) ?_; intro v' w4 hown' hgrow _; have HO := Lib.hid hown'; have hB4 := ((HB1.out.alloc hW _).grown hgrow (by simp; omega) (fun j ej => (HR.out.lt j ej).1)); clear hown' hgrow)
              have hgg := HGK.out
              go_roundg (n - k2)
              case measure =>
                by_cases hi0 : i = 0
                · rw [if_pos hi0] at hgg; omega
                · rw [if_neg hi0] at hgg; have := HK1.out (by omega); omega
              case rel =>
                have hr2 := HO.out
                rw [show R.map (Value.int .i64) ++ [.int .i64 c] = (R ++ [c]).map (Value.int .i64) by simp] at hr2
                refine ⟨k2, i + 1, q + 1, R ++ [c], by simp, by omega, rfl, by go_num, ?_, by simp [HRl.out], by omega, hr2, hB4, Lib.hid ?_, Lib.hid fun _ _ => ?_⟩
                · rcases Nat.eq_zero_or_pos i with h | h
                  · omega
                  · have := HK1.out h; omega
                · unfold restR
                  rw [HRU.out, hrr.out, HD.out, runs_turn (by rw [HXC.out]; decide), if_pos (by omega), oddN_succ, HBB.out]
                  simp
                · rw [HX.out, HXC.out, oddN_succ, HBB.out]; rfl
            · replace hm2 : (i : Int) % 2 = 1 := hm2
              go_wp2
              obtain ⟨g2, rfl⟩ : ∃ g2, gk = g2 + 1 := ⟨gk - 1, by omega⟩
              go_roundg g2
              case measure => omega
              case rel => exact ⟨k2 + 1, c + 1, by omega, by omega, by go_num, rfl, by omega, by omega, rfl, Lib.hid (by rw [hrr.out, HD.out, runs_same HXC.out])⟩
        · have hl3 : ¬ (k2 : Int) < n := by omega
          have hk1 : k < k2 := by omega
          go_wp2_with (at_builtin; refine wpList_append_own _ rfl _ _ 74 rfl w.heap.size 3 i0 (.int .i64 0) 1 8 Try.underlying74 hi hz0 hz1 hz2 rfl (by decide) _ q _ rfl (HR.out.alloc _) ⟨wr.heap.size, 0, none⟩ 1 1 [.int .i64 c] rfl rfl (cell_one_new _ _ _) (by simp [Value.oneCell']) (by unfold maxLen; omega) (by omega) (by simp; omega) ?_; intro v' w4 hown' hgrow _; have HO := Lib.hid hown'; have hB4 := ((HB1.out.alloc hW _).grown hgrow (by simp; omega) (fun j ej => (HR.out.lt j ej).1)); clear hown' hgrow)
          have hgg := HGK.out
          go_roundg 0
          case measure =>
            by_cases hi0 : i = 0
            · rw [if_pos hi0] at hgg; omega
            · rw [if_neg hi0] at hgg; omega
          case rel =>
            have hr2 := HO.out
            rw [show R.map (Value.int .i64) ++ [.int .i64 c] = (R ++ [c]).map (Value.int .i64) by simp] at hr2
            refine ⟨k2, i + 1, q + 1, R ++ [c], by simp; omega, by omega, rfl, by go_num, by omega, by simp [HRl.out], by omega, hr2, hB4, Lib.hid ?_, Lib.hid fun _ h => by omega⟩
            unfold restR
            rw [HRU.out, hrr.out, List.drop_of_length_le (by rw [HL.out]; omega), runsAux, if_neg hl2, List.append_nil]
    · have hlt2 : ¬ (k : Int) < n := by omega
      have hres := hru.out
      unfold restR at hres
      rw [if_neg hlt, List.append_nil] at hres
      have HRU := Lib.hid hres
      obtain ⟨ad, cap', rfl, hown, hcap⟩ := ownK_row HRl.out hrow
      have HR := Lib.hid hrow
      clear hrow hres hown hru hcl
      go_wp2
      go_ret
      rw [HRU.out]
      exact ⟨ad, cap', by rw [HRl.out]; rfl, by rw [HRl.out]; exact HR.out, hB⟩
end Bt
end Go.Proofs.Ytjjpnipcpnkakaa

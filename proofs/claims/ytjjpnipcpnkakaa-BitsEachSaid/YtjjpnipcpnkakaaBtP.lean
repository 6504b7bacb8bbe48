/- What has such runs, over any memory, of bits and of the document's own answer. Condition: numbers fit their kinds. -/
import Derived.Test.YtjjpnipcpnkakaaBtO
namespace Go.Proofs.Ytjjpnipcpnkakaa
open Go.RowKit Go.Shelf
set_option linter.unusedVariables false
namespace Bt
def unAux : Nat → List Int → List Int → List Int
  | _, out, [] => out
  | i, out, x :: l => if 4096 < out.length + x.toNat then [] else unAux (i + 1) (out ++ List.replicate x.toNat ((i : Int) % 2)) l
def unV (l : List Int) : List Int := unAux 0 [] l
theorem un_stop {i : Nat} {out l : List Int} {x : Int} (h : 4096 < out.length + x.toNat) : unAux i out (x :: l) = [] := by rw [unAux, if_pos h]
theorem un_go {i : Nat} {out l : List Int} {x : Int} (h : ¬ 4096 < out.length + x.toNat) : unAux i out (x :: l) = unAux (i + 1) (out ++ List.replicate x.toNat ((i : Int) % 2)) l := by rw [unAux, if_neg h]
theorem rep_push (out : List Int) (j : Nat) (v : Int) : (out ++ List.replicate j v).map (Value.int .i64) ++ [.int .i64 v] = (out ++ List.replicate (j + 1) v).map (Value.int .i64) := by
  rw [List.replicate_succ']; simp
set_option maxRecDepth 100000 in
set_option maxHeartbeats 8000000 in
theorem unrun_any (a : Option Addr) (n cap : Nat) (l : List Int) (w : World) (hn : n ≤ 100000) (hI : ∀ x ∈ l, -9223372036854775808 ≤ x ∧ x ≤ 9223372036854775807) (h : SlK .i64 w a n l) :
    Calls Try.prog 61 #[.slice a n cap] w (LsR (unV l) w) := by
  obtain ⟨i0, hi, hz0, hz1, hz2⟩ := info_parts Try.info_int
  have HL := Lib.hid h.1
  have HS := Lib.hid h.2
  have HI := Lib.hid hI
  clear h hI
  go_enter Try.func61, Try.ntmps61
  go_wp2
  go_loopg [3, 8] n (fun g s3 s8 wr => ∃ (k q : Nat) (R : List Int), k + g = n ∧ s8 = .int .i64 k ∧ R.length = q ∧ q ≤ 4096 ∧ wr.ownsRow w.heap.size 3 1 s3 q (R.map (Value.int .i64)) ∧ Below w.heap.size w wr ∧ Hid (unV l = unAux k R (l.drop k)))
  case atStart => exact ⟨0, 0, [], by omega, rfl, rfl, by omega, World.ownsRow_nil _ _ _ _, Below.refl _ _, Lib.hid rfl⟩
  case round =>
    obtain ⟨k, q, R, hk, rfl, hRl, hq, hrow, hB, hru⟩ := hrel
    have k0 : (0 : Int) ≤ k := Int.natCast_nonneg _
    have q0 : (0 : Int) ≤ q := Int.natCast_nonneg _
    have HRl := Lib.hid hRl; clear hRl
    cases gk with
    | zero =>
      obtain rfl : k = n := by omega
      obtain ⟨ad, cap', rfl, hown, hcap⟩ := ownK_row HRl.out hrow
      have HR := Lib.hid hrow
      have hres := hru.out
      rw [List.drop_of_length_le (by rw [HL.out]; omega), unAux] at hres
      have HRU := Lib.hid hres
      clear hrow hown hres hru
      go_wp2
      go_ret
      rw [HRU.out]
      exact ⟨ad, cap', by rw [HRl.out]; rfl, by rw [HRl.out]; exact HR.out, hB⟩
    | succ g =>
      have h1 : (k : Int) < n := by omega
      have hW := hB.size
      rcases HS.out with h0 | ⟨b, o, rfl, hc⟩
      · omega
      have hc0 := hc k (by omega)
      have hc := cell_later hB hc0
      have hdn := drop_next l k (by rw [HL.out]; omega)
      have hxm := HI.out _ (getD_mem l k (by rw [HL.out]; omega))
      obtain ⟨x, hx⟩ : ∃ x, l.getD k 0 = x := ⟨_, rfl⟩
      rw [hx] at hc hdn hxm hc0
      obtain ⟨x0, x1⟩ := hxm
      have hres := hru.out
      rw [hdn] at hres
      have HRU := Lib.hid hres
      have HC0 := Lib.hid hc0
      clear hdn hx hres hru hc0
      obtain ⟨ad, cap', rfl, hown, hcap⟩ := ownK_row HRl.out hrow
      have HR := Lib.hid hrow
      clear hrow hown
      by_cases hbig : 4096 < q + x.toNat
      · have hb1 : (4096 : Int) - q < x := by omega
        have HOK := Lib.hid (show unV l = [] by rw [HRU.out, un_stop (by rw [HRl.out]; exact hbig)])
        go_wp2
        go_ret
        rw [HOK.out]
        exact ⟨none, 0, rfl, World.ownsRow_nil _ _ _ _, hB⟩
      · have hb1 : ¬ (4096 : Int) - q < x := by omega
        obtain ⟨v, hv⟩ : ∃ v, (k : Int) % 2 = v := ⟨_, rfl⟩
        have HV := Lib.hid hv
        go_wp2
        obtain ⟨W1, hw1⟩ : ∃ W1, wr = W1 := ⟨_, rfl⟩
        have HB1 := Lib.hid hB
        rw [hw1] at HR HB1 hW ⊢
        clear hw1 hB hc
        go_loopg [3, 19] x.toNat (fun g2 s3 s19 wx => ∃ j : Nat, j + g2 = x.toNat ∧ s19 = .int .i64 j ∧ wx.ownsRow w.heap.size 3 1 s3 (q + j) ((R ++ List.replicate j v).map (Value.int .i64)) ∧ Below w.heap.size w wx)
        case atStart => exact ⟨0, by omega, rfl, by simpa using HR.out, HB1.out⟩
        case round =>
          obtain ⟨j, hj, rfl, hrow2, hB2⟩ := hrel
          have j0 : (0 : Int) ≤ j := Int.natCast_nonneg _
          have HR2 := Lib.hid hrow2
          have hW2 := hB2.size
          clear hrow2
          cases gk with
          | zero =>
            have hjx : ¬ (j : Int) < x := by omega
            have E1 := Lib.hid (show j = x.toNat by omega)
            go_wp2
            go_roundg g
            case measure => omega
            case rel => exact ⟨k + 1, q + j, R ++ List.replicate j v, by omega, by go_num, by simp [HRl.out], by omega, HR2.out, hB2, Lib.hid (by rw [HRU.out, un_go (by rw [HRl.out]; exact hbig), HV.out, E1.out])⟩
          | succ g2 =>
            have hjx : (j : Int) < x := by omega
            go_wp2_with (at_builtin; refine wpList_append_own _ rfl _ _ 74 rfl w.heap.size 3 i0 (.int .i64 0) 1 8 Try.underlying74 hi hz0 hz1 hz2 rfl (by decide) _ (q + j) _ rfl (HR2.out.alloc _) ⟨wr.heap.size, 0, none⟩ 1 1 [.int .i64 v] rfl rfl (cell_one_new _ _ _) (by simp [Value.oneCell']) (by unfold maxLen; omega) (by omega) (by simp; omega) ?_; intro v' w4 hown' hgrow _; have HO := Lib.hid hown'; have hB4 := ((hB2.alloc hW2 _).grown hgrow (by simp; omega) (fun j ej => (HR2.out.lt j ej).1)); clear hown' hgrow)
            go_roundg g2
            case measure => omega
            case rel =>
              have hr2 := HO.out
              rw [rep_push] at hr2
              exact ⟨j + 1, by omega, by go_num, hr2, hB4⟩
set_option maxRecDepth 100000 in
set_option maxHeartbeats 8000000 in
theorem refUnrun_any (a : Option Addr) (n cap : Nat) (l : List Int) (w : World) (hn : n ≤ 100000) (hI : ∀ x ∈ l, -9223372036854775808 ≤ x ∧ x ≤ 9223372036854775807) (h : SlK .i64 w a n l) :
    Calls Try.prog 62 #[.slice a n cap] w (LsR (unV l) w) := by
  obtain ⟨i0, hi, hz0, hz1, hz2⟩ := info_parts Try.info_int
  have HL := Lib.hid h.1
  have HS := Lib.hid h.2
  have HI := Lib.hid hI
  clear h hI
  go_enter Try.func62, Try.ntmps62
  go_wp2
  go_loopg [3, 4] n (fun g s3 s4 wr => ∃ (k q : Nat) (R : List Int), k + g = n ∧ s4 = .int .i64 k ∧ R.length = q ∧ q ≤ 4096 ∧ wr.ownsRow w.heap.size 3 1 s3 q (R.map (Value.int .i64)) ∧ Below w.heap.size w wr ∧ Hid (unV l = unAux k R (l.drop k)))
  case atStart => exact ⟨0, 0, [], by omega, rfl, rfl, by omega, World.ownsRow_nil _ _ _ _, Below.refl _ _, Lib.hid rfl⟩
  case round =>
    obtain ⟨k, q, R, hk, rfl, hRl, hq, hrow, hB, hru⟩ := hrel
    have k0 : (0 : Int) ≤ k := Int.natCast_nonneg _
    have q0 : (0 : Int) ≤ q := Int.natCast_nonneg _
    have HRl := Lib.hid hRl; clear hRl
    cases gk with
    | zero =>
      obtain rfl : k = n := by omega
      obtain ⟨ad, cap', rfl, hown, hcap⟩ := ownK_row HRl.out hrow
      have HR := Lib.hid hrow
      have hres := hru.out
      rw [List.drop_of_length_le (by rw [HL.out]; omega), unAux] at hres
      have HRU := Lib.hid hres
      clear hrow hown hres hru
      go_wp2
      go_ret
      rw [HRU.out]
      exact ⟨ad, cap', by rw [HRl.out]; rfl, by rw [HRl.out]; exact HR.out, hB⟩
    | succ g =>
      have h1 : (k : Int) < n := by omega
      have hW := hB.size
      rcases HS.out with h0 | ⟨b, o, rfl, hc⟩
      · omega
      have hc0 := hc k (by omega)
      have hc := cell_later hB hc0
      have hdn := drop_next l k (by rw [HL.out]; omega)
      have hxm := HI.out _ (getD_mem l k (by rw [HL.out]; omega))
      obtain ⟨x, hx⟩ : ∃ x, l.getD k 0 = x := ⟨_, rfl⟩
      rw [hx] at hc hdn hxm hc0
      obtain ⟨x0, x1⟩ := hxm
      have hres := hru.out
      rw [hdn] at hres
      have HRU := Lib.hid hres
      have HC0 := Lib.hid hc0
      clear hdn hx hres hru hc0
      have HR := Lib.hid hrow
      clear hrow
      obtain ⟨v, hv⟩ : ∃ v, (k : Int) % 2 = v := ⟨_, rfl⟩
      have HV := Lib.hid hv
      by_cases hbig0 : 4096 < x
      · have HOK := Lib.hid (show unV l = [] by rw [HRU.out, un_stop (by rw [HRl.out]; omega)])
        go_wp2
        go_ret
        rw [HOK.out]
        exact ⟨none, 0, rfl, World.ownsRow_nil _ _ _ _, hB⟩
      · go_wp2
        obtain ⟨W1, hw1⟩ : ∃ W1, wr = W1 := ⟨_, rfl⟩
        have HB1 := Lib.hid hB
        rw [hw1] at HR HB1 hW ⊢
        clear hw1 hB hc
        go_loopg [3, 5] x.toNat (fun g2 s3 s5 wx => ∃ j : Nat, j + g2 = x.toNat ∧ s5 = .int .i64 j ∧ wx.ownsRow w.heap.size 3 1 s3 (q + j) ((R ++ List.replicate j v).map (Value.int .i64)) ∧ Below w.heap.size w wx)
        case atStart => exact ⟨0, by omega, rfl, by simpa using HR.out, HB1.out⟩
        case round =>
          obtain ⟨j, hj, rfl, hrow2, hB2⟩ := hrel
          have j0 : (0 : Int) ≤ j := Int.natCast_nonneg _
          have hc := cell_later hB2 HC0.out
          have hW2 := hB2.size
          cases gk with
          | zero =>
            have hjx : ¬ (j : Int) < x := by omega
            have E1 := Lib.hid (show j = x.toNat by omega)
            obtain ⟨ad, cap', rfl, hown, hcap⟩ := ownK_row (by simp [HRl.out]) hrow2
            have HR2 := Lib.hid hrow2
            clear hrow2 hown
            by_cases hbig : 4096 < q + j
            · have HOK := Lib.hid (show unV l = [] by rw [HRU.out, un_stop (by rw [HRl.out, ← E1.out]; exact hbig)])
              have hb2 : (4096 : Int) < (q + j : Nat) := by omega
              go_wp2
              go_ret
              rw [HOK.out]
              exact ⟨none, 0, rfl, World.ownsRow_nil _ _ _ _, hB2⟩
            · have hb2 : ¬ (4096 : Int) < (q + j : Nat) := by omega
              go_wp2
              go_roundg g
              case measure => omega
              case rel => exact ⟨k + 1, q + j, R ++ List.replicate j v, by omega, by go_num, by simp [HRl.out], by omega, HR2.out, hB2, Lib.hid (by rw [HRU.out, un_go (by rw [HRl.out, ← E1.out]; exact hbig), HV.out, E1.out])⟩
          | succ g2 =>
            have hjx : (j : Int) < x := by omega
            have HR2 := Lib.hid hrow2
            clear hrow2
            go_wp2_with (at_builtin; refine wpList_append_own _ rfl _ _ 74 rfl w.heap.size 3 i0 (.int .i64 0) 1 8 Try.underlying74 hi hz0 hz1 hz2 rfl (by decide) _ (q + j) _ rfl (HR2.out.alloc _) ⟨wr.heap.size, 0, none⟩ 1 1 [.int .i64 v] rfl rfl (cell_one_new _ _ _) (by simp [Value.oneCell']) (by unfold maxLen; omega) (by omega) (by simp; omega) ?_; intro v' w4 hown' hgrow _; have HO := Lib.hid hown'; have hB4 := ((hB2.alloc hW2 _).grown hgrow (by simp; omega) (fun j ej => (HR2.out.lt j ej).1)); clear hown' hgrow)
            go_roundg g2
            case measure => omega
            case rel =>
              have hr2 := HO.out
              rw [rep_push] at hr2
              exact ⟨j + 1, by omega, by go_num, hr2, hB4⟩
end Bt
end Go.Proofs.Ytjjpnipcpnkakaa

/- The widths of a list of rows, by the document. Condition: the list is short, its rows too. -/
import Derived.Test.YtpkikhoicobmcaaZWdRl
import Derived.Test.YtpkikhoicobmcaaZWdK
import Derived.Test.YtpkikhoicobmcaaZWdE
namespace Go.Proofs.Ytpkikhoicobmcaa
open Go.RowKit
set_option linter.unusedVariables false
open Tr Au Wd
theorem hasW_at {S : LL} {k : Nat} (hk : k < S.length) {x : Int} (h : ((S.getD k []).length : Int) = x) : hasW S x = true := hasW_iff.2 ⟨S.getD k [], gD_mem hk, h⟩
theorem hasW_no {S : LL} {x : Int} (hn : ∀ j, j < S.length → ((S.getD j []).length : Int) ≠ x) : hasW S x = false := by
  cases h : hasW S x with
  | false => rfl
  | true =>
    obtain ⟨r, hr, e⟩ := hasW_iff.1 h
    obtain ⟨j, hj, rfl⟩ := List.getElem_of_mem hr
    exact absurd e (by have := hn j hj; rwa [gD hj] at this)
theorem widK_len (S : LL) (k : Nat) : (widK S k).length ≤ k + 1 := by unfold widK; rw [List.length_map]; exact Nat.le_trans (List.length_filter_le _ _) (by simp)
set_option maxRecDepth 100000 in
set_option maxHeartbeats 4000000 in
theorem refWidths14 {w : World} {ra : Option Addr} {rn rc : Nat} {vs : List Value} {S : LL} (hr : Rv w ra rn vs S) (hrn : rn ≤ 100) (hd : ∀ r ∈ S, r.length ≤ 5) :
    Calls Try.prog 15 #[.slice ra rn rc] w (WidR S w) := by
  obtain ⟨i0, hi, hz0, hz1, hz2⟩ := info_parts Try.info_int
  have hrl := hr.rl
  have HR := Lib.hid hr
  have HRL := Lib.hid hrl
  have HD := Lib.hid hd
  have htl : topV S ≤ 5 := top_le hd
  have HTT : Hid (∀ k, topV (S.take k) ≤ 5) := Lib.hid (fun k => top_le fun r hr => hd r (List.mem_of_mem_take hr))
  clear hr hrl hd
  go_enter Try.func15, Try.ntmps15
  go_wp2_with fail
  go_loopw [4, 5] (fun s4 s5 wr => ∃ k : Nat, k ≤ rn ∧ s5 = .int .i64 (k : Int) ∧ s4 = .int .i64 (topV (S.take k) : Nat) ∧ w = wr) (fun _ s5 _ => rn - (intOf s5).toNat)
  case atStart => exact ⟨0, Nat.zero_le _, rfl, rfl, rfl⟩
  case round =>
    obtain ⟨k, hk, rfl, rfl, rfl⟩ := hrel
    by_cases hlt : k < rn
    · have h1 : (k : Int) < (rn : Int) := by omega
      have hk0 : (0 : Int) ≤ (k : Int) := Int.natCast_nonneg _
      obtain ⟨br, or_, ai, ci, rfl, e1, _, _, _⟩ := rv_row HR.out hlt
      have hts := top_take (S := S) (k := k) (by rw [HRL.out]; exact hlt)
      have HTS := Lib.hid hts
      obtain ⟨t, ht⟩ : ∃ t, topV (S.take k) = t := ⟨_, rfl⟩
      obtain ⟨pm, hpm⟩ : ∃ pm, (S.getD k []).length = pm := ⟨_, rfl⟩
      have hp5 : pm ≤ 5 := by rw [← hpm]; exact HD.out _ (gD_mem (by rw [HRL.out]; exact hlt))
      have ht5 : t ≤ 5 := by rw [← ht]; exact HTT.out k
      rw [ht, hpm] at HTS
      rw [hpm] at e1
      rw [ht]
      obtain ⟨u, hu⟩ : ∃ u, max t pm = u := ⟨_, rfl⟩
      rw [hu] at HTS
      have hui : max (t : Int) (pm : Int) = (u : Int) := by omega
      clear hts ht hpm hu
      by_cases hcmp : t < pm
      · have d1 : (t : Int) < (pm : Int) := by omega
        obtain rfl : u = pm := by omega
        go_wp2_with fail
        go_roundw
        case rel => exact ⟨k + 1, by omega, by go_num, by rw [HTS.out], by trivial⟩
        case measure => simp [intOf]; omega
      · have d1 : ¬ (t : Int) < (pm : Int) := by omega
        obtain rfl : u = t := by omega
        go_wp2_with fail
        go_roundw
        case rel => exact ⟨k + 1, by omega, by go_num, by rw [HTS.out], by trivial⟩
        case measure => simp [intOf]; omega
    · obtain rfl : k = rn := by omega
      have h1 : ¬ (k : Int) < (k : Int) := by omega
      have htk : S.take k = S := by rw [← HRL.out]; exact List.take_length
      rw [htk]
      obtain ⟨t, ht⟩ : ∃ t, topV S = t := ⟨_, rfl⟩
      have HT := Lib.hid ht
      rw [ht] at htl ⊢
      clear htk ht
      go_wp2_with fail
      go_loopw [3, 6] (fun s3 s6 wr => ∃ (d : Nat) (v3 : Value), v3 = s3 ∧ d ≤ t ∧ s6 = .int .i64 ((d : Int) + 1) ∧ wr.ownsRow w.heap.size 3 1 v3 (widK S d).length ((widK S d).map (Value.int .i64)) ∧ Below w.heap.size w wr) (fun _ s6 _ => t + 1 - (intOf s6).toNat)
      case atStart => exact ⟨0, _, rfl, Nat.zero_le _, rfl, World.ownsRow_nil _ _ _ _, Below.refl _ _⟩
      case round =>
        obtain ⟨d, v3, rfl, hdt, rfl, hrow, hb⟩ := hrel
        have HROW := Lib.hid hrow
        have HB := Lib.hid hb
        have hwl := widK_len S d
        by_cases hlt : d < t
        · have hdI : ((d : Int) + 1) ≤ (t : Int) := by omega
          have hws := widK_succ S d
          have HWS := Lib.hid hws
          obtain ⟨m, hm⟩ : ∃ m, (widK S d).length = m := ⟨_, rfl⟩
          have HM := Lib.hid hm
          rw [hm] at HROW hwl
          obtain ⟨a3, c3, e3⟩ := Tr.own_form HROW.out
          subst e3
          obtain ⟨x, hx⟩ : ∃ x : Int, (d : Int) + 1 = x := ⟨_, rfl⟩
          have hxd : ((d + 1 : Nat) : Int) = x := by omega
          rw [hxd] at HWS
          have HXD := Lib.hid hxd
          have hxt : x ≤ (t : Int) := by omega
          have hx0 : (0 : Int) ≤ x ∧ x ≤ 6 := by omega
          rw [hx]
          clear hrow hb hws hm hxd hdI hx
          go_upto_block 3 with fail
          go_cut [3, 7] from 26 to 42 (fun s3 _ wx => ∃ v4 : Value, v4 = s3 ∧ wx.ownsRow w.heap.size 3 1 v4 (widK S (d + 1)).length ((widK S (d + 1)).map (Value.int .i64)) ∧ Below w.heap.size w wx)
          case first =>
            go_wp2_with fail
            go_loopw [3, 7] (fun s3 s7 wr' => ∃ j : Nat, j ≤ k ∧ s3 = .slice a3 m c3 ∧ s7 = .int .i64 (j : Int) ∧ (∀ i, i < j → ((S.getD i []).length : Int) ≠ x) ∧ wr = wr') (fun _ s7 _ => k - (intOf s7).toNat)
            case atStart => exact ⟨0, Nat.zero_le _, rfl, rfl, fun i hi => by omega, rfl⟩
            case round =>
              obtain ⟨j, hj, rfl, rfl, hno, hwr⟩ := hrel
              subst hwr
              have HNO := Lib.hid hno
              clear hno
              have hj0 : (0 : Int) ≤ (j : Int) := Int.natCast_nonneg _
              by_cases hjk : j < k
              · have hjI : (j : Int) < (k : Int) := by omega
                have hjS : j < S.length := by rw [HRL.out]; exact hjk
                obtain ⟨br, or_, ai, ci, rfl, e1, _, _, _⟩ := rv_row (HR.out.later HB.out) hjk
                have HHA := Lib.hid (fun h => hasW_at (x := x) hjS h)
                have HNX : Hid (((S.getD j []).length : Int) ≠ x → ∀ i, i < j + 1 → ((S.getD i []).length : Int) ≠ x) := Lib.hid (fun h i hi => by
                  by_cases e : i < j
                  · exact HNO.out i e
                  · obtain rfl : i = j := by omega
                    exact h)
                obtain ⟨pm, hpm⟩ : ∃ pm, (S.getD j []).length = pm := ⟨_, rfl⟩
                rw [hpm] at e1 HHA HNX
                clear hpm
                by_cases hpx : (pm : Int) = x
                · have f1 : ((pm : Int) == x) = true := by rw [beq_iff_eq]; exact hpx
                  have HH := Lib.hid (HHA.out hpx)
                  clear hpx HHA HNX
                  have hsz := HB.out.size
                  go_wp2_with (at_builtin; refine wpList_append_lies _ rfl _ _ 31 rfl w.heap.size 3 i0 (.int .i64 0) 1 8 Try.underlying31 hi hz0 hz1 hz2 rfl (by decide) _ m _ rfl (HROW.out.alloc _) ⟨wr.heap.size, 0, none⟩ 1 1 [.int .i64 x] rfl rfl (one_newT2 _ _ _) (by simp [Value.oneCell']) (by omega) (by unfold maxLen; omega) (by omega) (by simp; omega) _ rfl ?_; intro gg cc w5 hown hgrow hat5 _; have HOWN5 := Lib.hid hown; have HB5 := Lib.hid (HB.out.grown (grown_trans2 hgrow) hsz (fun j e => (HROW.out.lt j e).1)); clear hown hgrow hat5)
                  go_meet
                  case rel =>
                    have h9 := HOWN5.out
                    refine ⟨_, rfl, ?_, HB5.out⟩
                    rw [HWS.out, if_pos HH.out, List.length_append, List.length_singleton, HM.out, List.map_append]; exact h9
                · have f1 : ((pm : Int) == x) = false := by rw [beq_eq_false_iff_ne]; exact hpx
                  have HX2 := Lib.hid (HNX.out hpx)
                  clear hpx HHA HNX
                  go_wp2_with fail
                  go_roundw
                  case rel => exact ⟨j + 1, by omega, rfl, by go_num, HX2.out, by trivial⟩
                  case measure => simp [intOf]; omega
              · obtain rfl : j = k := by omega
                have hjI : ¬ (j : Int) < (j : Int) := by omega
                have HH := Lib.hid (hasW_no (S := S) (x := x) (fun i hi => HNO.out i (by rw [← HRL.out]; exact hi)))
                go_wp2_with fail
                go_meet
                case rel =>
                  refine ⟨_, rfl, ?_, HB.out⟩
                  rw [HWS.out, if_neg (by rw [HH.out]; simp), HM.out]; exact HROW.out
          case rest =>
            obtain ⟨v4, rfl, hr4, hb4⟩ := hcut
            have HR4 := Lib.hid hr4
            have HB4 := Lib.hid hb4
            clear hr4 hb4
            have hxp : IntKind.i64.wrap (x + 1) = x + 1 := by rw [IntWalk.i64_in _ (by omega)]
            go_wp2_with fail
            go_roundw
            case rel => exact ⟨d + 1, _, rfl, by omega, by rw [← HXD.out], HR4.out, HB4.out⟩
            case measure => simp [intOf]; omega
        · obtain rfl : d = t := by omega
          have h2 : ¬ ((d : Int) + 1) ≤ (d : Int) := by omega
          have HF : Hid (WidR S w (.returned v3) wr) := Lib.hid (by
            obtain ⟨a, c, rfl, ho, _⟩ := ownK_row rfl hrow
            have e : widV S = widK S d := by unfold widV; rw [HT.out]
            exact ⟨a, c, by rw [e], by rw [e]; exact ho, hb⟩)
          clear hrow hb
          go_wp2_with fail
          go_ret
          exact HF.out
end Go.Proofs.Ytpkikhoicobmcaa

/- slices.Repeat of -1. Condition: at most twelve. -/
import Derived.Test.YtpkikhoicobmcaaZWdF
import Derived.Laws.CopyOwn
import Derived.Laws.OwnMore
import Derived.Laws.MakeOwn
namespace Go.Proofs.Ytpkikhoicobmcaa
open Go.RowKit
set_option linter.unusedVariables false
open Tr Au Wd
set_option maxRecDepth 100000 in
set_option maxHeartbeats 4000000 in
theorem mul64_12 (w : World) (n : Nat) (hn : n ≤ 12) : Calls Try.prog 73 #[.int .u64 1, .int .u64 n] w fun e w' => e = .returned (.tuple #[.int .u64 0, .int .u64 n]) ∧ w = w' := by
  have h : n = 0 ∨ n = 1 ∨ n = 2 ∨ n = 3 ∨ n = 4 ∨ n = 5 ∨ n = 6 ∨ n = 7 ∨ n = 8 ∨ n = 9 ∨ n = 10 ∨ n = 11 ∨ n = 12 := by omega
  clear hn
  rcases h with rfl | rfl | rfl | rfl | rfl | rfl | rfl | rfl | rfl | rfl | rfl | rfl | rfl
  all_goals
    go_enter Try.func73, Try.ntmps73
    go_wp2
    go_ret2
    exact ⟨rfl, rfl⟩
theorem mul_12 (w : World) (n : Nat) (hn : n ≤ 12) : Calls Try.prog 48 #[.int .u64 1, .int .u64 n] w fun e w' => e = .returned (.tuple #[.int .u64 0, .int .u64 n]) ∧ w = w' := by
  have HM := Lib.hid (mul64_12 w n hn)
  go_enter Try.func48, Try.ntmps48
  go_wp2_with (go_at_call 73; refine HM.out.mono ?_; rintro e w1 ⟨rfl, rfl⟩)
  go_ret2
  exact ⟨rfl, rfl⟩
/-- k times -1, the rest nought -/
def Rk (n k : Nat) : List Int := List.replicate k (-1) ++ List.replicate (n - k) 0
theorem rk_len {n k : Nat} (h : k ≤ n) : (Rk n k).length = n := by unfold Rk; simp; omega
theorem rk_all (n : Nat) : Rk n n = List.replicate n (-1) := by unfold Rk; simp
theorem rk_splice {n k m : Nat} (h : k + m ≤ n) : splice (Rk n k) k (List.replicate m (-1)) = Rk n (k + m) := by
  unfold splice Rk
  rw [List.take_left' (by simp), List.drop_append, List.length_replicate, List.length_replicate, show k + m - k = m by omega, List.drop_eq_nil_of_le (by simp), List.drop_replicate, ← List.replicate_append_replicate, List.append_assoc, List.nil_append, show n - k - m = n - (k + m) by omega]
theorem made_zeroI (n : Nat) : madeCells #[Value.int .i64 0] n = ((List.replicate n (0 : Int)).map (Value.int .i64)).toArray := by
  apply Array.ext
  · simp [madeCells]
  · intro i h1 h2
    simp [madeCells, Nat.mod_one]
theorem splice_map {L cs : List Int} {k : Nat} : splice (L.map (Value.int .i64)) k (cs.map (Value.int .i64)) = (splice L k cs).map (Value.int .i64) := by
  unfold splice; simp [List.map_take, List.map_drop]
theorem Try.size_int : (Try.prog.info? 3).map (·.size) = some 1 := by kernel_rfl
def RepR (n : Nat) (w : World) (e : Ending) (w' : World) : Prop := ∃ g, e = .returned (.slice (some ⟨g, 0, none⟩) n n) ∧ w.heap.size ≤ g ∧ w'.heap[g]? = some (.cells ((List.replicate n (-1 : Int)).map (Value.int .i64)).toArray 3 (0, 0)) ∧ Below w.heap.size w w'
theorem rep_ones (m : Nat) : ∀ v ∈ (List.replicate m (-1 : Int)).map (Value.int .i64), v.oneCell' = true := fun v hv => by
  obtain ⟨x, _, rfl⟩ := List.mem_map.1 hv; rfl
theorem rep_step {w : World} {g n k m : Nat} {cs : List Value} (hcs : (List.replicate m (-1 : Int)).map (Value.int .i64) = cs) (h : k + m ≤ n) (hg : w.heap[g]? = some (.cells (splice ((Rk n k).map (Value.int .i64)) k cs).toArray 3 (0, 0))) : w.heap[g]? = some (.cells ((Rk n (k + m)).map (Value.int .i64)).toArray 3 (0, 0)) := by
  rw [← hcs, splice_map, rk_splice h] at hg; exact hg
theorem rep_src {w : World} {x m : Nat} {cs : List Value} (hcs : (List.replicate m (-1 : Int)).map (Value.int .i64) = cs) (hl : cs.length = m) (h : m ≤ 1) (hx : w.cell? ⟨x, 0, none⟩ = some (.int .i64 (-1))) : ∀ j v, cs[j]? = some v → w.cell? ((⟨x, 0, none⟩ : Addr).add j) = some v := by
  intro j v hv
  have hj := (List.getElem?_eq_some_iff.1 hv).1
  obtain rfl : j = 0 := by omega
  have e : v = .int .i64 (-1) := by
    have := List.mem_of_getElem? hv
    rw [← hcs] at this
    obtain ⟨y, hy, rfl⟩ := List.mem_map.1 this
    rw [(List.mem_replicate.1 hy).2]
  rw [e]; simpa [Addr.add] using hx
theorem rep_own {w : World} {g n k m : Nat} {cs : List Value} (hcs : (List.replicate m (-1 : Int)).map (Value.int .i64) = cs) (hl : cs.length = m) (h : m ≤ k) (hk : k ≤ n) (hg : w.heap[g]? = some (.cells ((Rk n k).map (Value.int .i64)).toArray 3 (0, 0))) : ∀ j v, cs[j]? = some v → w.cell? ((⟨g, 0, none⟩ : Addr).add j) = some v := by
  intro j v hv
  have hj := (List.getElem?_eq_some_iff.1 hv).1
  have e : v = .int .i64 (-1) := by
    have := List.mem_of_getElem? hv
    rw [← hcs] at this
    obtain ⟨y, hy, rfl⟩ := List.mem_map.1 this
    rw [(List.mem_replicate.1 hy).2]
  rw [e, addrK_add, Nat.zero_add]
  have h2 : (Rk n k)[j]? = some (-1) := by
    unfold Rk
    rw [List.getElem?_append_left (by simp; omega), List.getElem?_replicate, if_pos (by omega)]
  simp [World.cell?, hg, h2]
set_option maxRecDepth 100000 in
set_option maxHeartbeats 4000000 in
theorem repeat_any {w : World} {x : Nat} {n : Nat} (hn : n ≤ 12) (hx : w.cell? ⟨x, 0, none⟩ = some (.int .i64 (-1))) : Calls Try.prog 33 #[.slice (some ⟨x, 0, none⟩) 1 1, .int .i64 n] w (RepR n w) := by
  have HM := Lib.hid (mul_12 w n hn)
  have hn0 : (0 : Int) ≤ (n : Int) := Int.natCast_nonneg _
  have hnn : ¬ (n : Int) < 0 := by omega
  have hwu : IntKind.u64.wrap (n : Int) = (n : Int) := by simp [IntKind.wrap, IntKind.bits, IntKind.signed]; omega
  have hwi : IntKind.i64.wrap (n : Int) = (n : Int) := by rw [IntWalk.i64_in _ (by omega)]
  have hgt : ¬ (9223372036854775807 : Int) < (n : Int) := by omega
  have hmk := run_make_row' (P := Try.prog) 31 3 (.int .i64 0) 8 Try.underlying31 Try.info_int rfl .i64 .i64 n (by omega) (by omega) w
  have hnew := World.alloc_heap_new w (.cells (madeCells #[Value.int .i64 0] n) 3)
  have hb1 := box1T w (.cells (madeCells #[Value.int .i64 0] n) 3)
  obtain ⟨W1, hW1⟩ : ∃ W1, w.alloc (.cells (madeCells #[Value.int .i64 0] n) 3) = W1 := ⟨_, rfl⟩
  rw [hW1] at hmk hnew hb1
  obtain ⟨g, hg⟩ : ∃ g, w.heap.size = g := ⟨_, rfl⟩
  rw [hg] at hmk hnew
  have HG := Lib.hid hg
  have HNEW := Lib.hid (show W1.heap[g]? = some (.cells ((Rk n 0).map (Value.int .i64)).toArray 3 (0, 0)) by
    rw [made_zeroI] at hnew
    exact hnew)
  have HB1 := Lib.hid hb1
  have hx1 := cell_later hb1 hx
  have HX1 := Lib.hid hx1
  clear hnew hb1 hW1 hg hx1 hx
  go_enter Try.func33, Try.ntmps33
  go_upto_region 7 with (go_at_call 48; refine HM.out.mono ?_; rintro e w2 ⟨rfl, rfl⟩)
  obtain ⟨m0, hm0⟩ : ∃ m0, min 1 n = m0 := ⟨_, rfl⟩
  have hm1 : m0 ≤ n := by omega
  have hmn : Nat.min 1 n = m0 := hm0
  obtain ⟨cs, hcs⟩ : ∃ cs, (List.replicate m0 (-1 : Int)).map (Value.int .i64) = cs := ⟨_, rfl⟩
  have hcl : cs.length = m0 := by rw [← hcs]; simp
  have HCS := Lib.hid hcs
  have HCL := Lib.hid hcl
  have HMN := Lib.hid hmn
  have HM0 := Lib.hid hm0
  clear hcs hcl hmn hm0
  go_wp2_with ((with_reducible show wpList _ _ _ ({ dst := _, op := .call { callee := .builtin .copy, args := _, argTypes := _ }, type := _, pos := _, after := _, guard := _ } :: _) _ _); refine wpList_copy_splice rfl (.tmp 31) (.tmp 32) 31 31 rfl 3 Try.underlying31 Try.size_int (some ⟨g, 0, none⟩) (some ⟨x, 0, none⟩) n n 1 1 rfl rfl g 0 _ _ HNEW.out cs (by rw [HCL.out, HMN.out]) (fun h => ⟨rfl, _, rfl, rep_src HCS.out HCL.out (by have := HM0.out; omega) HX1.out⟩) (by rw [HCL.out, List.length_map, rk_len (Nat.zero_le _)]; omega) (by rw [← HCS.out]; exact rep_ones _) w.heap.size w HB1.out (by rw [HG.out]; exact Nat.le_refl _) ?_; intro w2 hg2 hb2; rw [HCL.out]; have HG2 := Lib.hid (rep_step (k := 0) HCS.out (by omega) hg2.out); have HB2 := Lib.hid hb2; clear hg2 hb2)
  rw [Nat.zero_add] at HG2
  try unfold goInt
  go_loopw [8] (fun s8 wr => ∃ k : Nat, s8 = .int .i64 (k : Int) ∧ m0 ≤ k ∧ k ≤ n ∧ wr.heap[g]? = some (.cells ((Rk n k).map (Value.int .i64)).toArray 3 (0, 0)) ∧ Below w.heap.size w wr) (fun s8 _ => n - (intOf s8).toNat)
  case atStart => exact ⟨m0, rfl, Nat.le_refl _, hm1, HG2.out, HB2.out⟩
  case round =>
    obtain ⟨k, rfl, hk1, hk, hgr, hb⟩ := hrel
    have HGR := Lib.hid hgr
    have HBR := Lib.hid hb
    clear hgr hb
    by_cases hlt : k < n
    · have h1 : (k : Int) < (n : Int) := by omega
      have hk0 : (0 : Int) ≤ (k : Int) := Int.natCast_nonneg _
      have hkp : 1 ≤ k := by have := HM0.out; omega
      have hkn : ¬ n = k := by omega
      have hkl : (k : Int) ≤ (n : Int) := by omega
      obtain ⟨d, hd⟩ : ∃ d, n - k = d := ⟨_, rfl⟩
      obtain ⟨m, hm⟩ : ∃ m, min k d = m := ⟨_, rfl⟩
      have hmN : Nat.min k d = m := hm
      have hmk2 : k + m ≤ n := by omega
      have hmp : 1 ≤ m := by omega
      have hmn9 : k + m ≤ n := hmk2
      obtain ⟨cz, hcz⟩ : ∃ cz, (List.replicate m (-1 : Int)).map (Value.int .i64) = cz := ⟨_, rfl⟩
      have hczl : cz.length = m := by rw [← hcz]; simp
      have HCZ := Lib.hid hcz
      have HCZL := Lib.hid hczl
      have HMN2 := Lib.hid hmN
      have HMD := Lib.hid hm
      have hadd : IntKind.i64.wrap ((k : Int) + (m : Int)) = ((k + m : Nat) : Int) := by rw [IntWalk.i64_in _ (by omega)]; omega
      have HADD := Lib.hid hadd
      clear hcz hczl hmN hm hadd
      go_wp2_with fail
      go_region_law (refine step_copy_splice rfl (.tmp 41) (.tmp 44) 31 31 rfl 3 Try.underlying31 Try.size_int (some ⟨g, k, none⟩) (some ⟨g, 0, none⟩) d d k n (by kernel_rfl) (by kernel_rfl) g k _ _ HGR.out cz (by rw [HCZL.out, HMN2.out]) (fun h => ⟨rfl, _, rfl, rep_own HCZ.out HCZL.out (by have := HMD.out; omega) hk HGR.out⟩) (by rw [HCZL.out, List.length_map, rk_len hk]; omega) (by rw [← HCZ.out]; exact rep_ones _) w.heap.size w (by first | exact HBR.out | exact HBR.out.drew) (by rw [HG.out]; exact Nat.le_refl _) ?_; intro w4 hg4 hb4; rw [HCZL.out]; (try unfold goInt); have HG4 := Lib.hid (rep_step (k := k) HCZ.out hmk2 hg4.out); have HB4 := Lib.hid hb4; have hadd2 := HADD.out; clear hg4 hb4)
      all_goals
        have HHD := Lib.hid hd
        clear hd hadd2
        go_simp
        go_wp2_with fail
        go_roundw
        case rel => exact ⟨k + m, by go_num, by omega, hmk2, HG4.out, HB4.out⟩
        case measure => simp [intOf]; omega
    · obtain rfl : k = n := by omega
      have h1 : ¬ (k : Int) < (k : Int) := by omega
      go_wp2
      go_ret
      exact ⟨g, rfl, by rw [HG.out]; exact Nat.le_refl _, by rw [← rk_all]; exact HGR.out, HBR.out⟩
end Go.Proofs.Ytpkikhoicobmcaa

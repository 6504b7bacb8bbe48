/- How far a word is known: by a tree. No condition. -/
import Derived.Test.YtehmbnloplamaaaTrC
import Derived.LoopN
namespace Go.Proofs.Ytehmbnloplamaaa
open Go.RowKit
set_option linter.unusedVariables false
open Tr
theorem take_snocI {l : List Int} {i : Nat} (h : i < l.length) : l.take i ++ [l.getD i 0] = l.take (i + 1) := by
  rw [gD h, List.take_succ_eq_append_getElem h]
theorem Tr.child_take {L : LL} {l : List Int} {i : Nat} (hm : l.take i ∈ L) (hi : i < l.length) : childV L (findV L (l.take i)) (l.getD i 0) = findV L (l.take (i + 1)) := by
  have h1 := idx_lt_iff.2 hm
  unfold childV out
  rw [findV_mem hm, if_neg (by omega), Int.toNat_natCast, idx_at hm, take_snocI hi]
theorem slk_at {q : IntKind} {w : World} {a : Option Addr} {n : Nat} {l : List Int} (h : SlK q w a n l) (hn : 0 < n) : ∃ b o, a = some ⟨b, o, none⟩ ∧ ∀ i, i < n → w.cell? ⟨b, o + i, none⟩ = some (.int q (l.getD i 0)) := by
  rcases h.2 with h0 | ⟨b, o, e, hc⟩
  · omega
  · exact ⟨b, o, e, hc⟩
set_option maxRecDepth 100000 in
set_option maxHeartbeats 1000000 in
theorem walk_tr {w : World} {B tb nb nc : Nat} {rv : Nat → Value} {L W : LL} (h : TrP w B tb nb nc rv L W) (hI : Inv L) {a : Option Addr} {m c : Nat} {l : List Int} (hs : SlK .u64 w a m l) (hm9 : m ≤ 9223372036854775807) :
    Calls Try.prog 50 #[.pointer (some ⟨tb, 0, none⟩), .slice a m c] w fun e w' => e = .returned (.tuple #[.int .i64 (walkN L l), .int .i64 (known L l)]) ∧ Below w.heap.size w w' := by
  have HCh := Lib.hid (fun (w' : World) (hb : Below w.heap.size w w') (k p : Int) => child_tr (h.later hb) hI k p)
  have HS := Lib.hid (fun (w' : World) (hb : Below w.heap.size w w') => hs.below hb)
  have HI := Lib.hid hI
  have hlm := hs.1
  have HLM := Lib.hid hlm
  have HPos : Hid (∀ p, p ∈ L → findV L p ≠ -1) := Lib.hid fun p hp => by have := findV_pos.2 hp; omega
  clear h hs hlm
  go_enter Try.func50, Try.ntmps50
  go_wp2
  go_loopw [6, 12] (fun s6 s12 wr => ∃ i : Nat, i ≤ m ∧ s12 = .int .i64 i ∧ s6 = .int .i64 (findV L (l.take i)) ∧ l.take i ∈ L ∧ Below w.heap.size w wr) (fun _ s12 _ => m - (intOf s12).toNat)
  case atStart =>
    refine ⟨0, Nat.zero_le _, rfl, ?_, by rw [List.take_zero]; exact HI.out.nil, Below.refl _ _⟩
    have e : findV L (l.take 0) = 0 := findV_hit (k := 0) HI.out.pos HI.out.root (fun j hj => by omega)
    rw [e]
  case round =>
    obtain ⟨i, hi, rfl, rfl, hin, hb⟩ := hrel
    have HB := Lib.hid hb
    have HIN := Lib.hid hin
    by_cases hlt : i < m
    · have hltI : (i : Int) < (m : Int) := by omega
      have hi0 : (0 : Int) ≤ (i : Int) := Int.natCast_nonneg _
      obtain ⟨b, o, rfl, hc⟩ := slk_at (HS.out _ hb) (by omega)
      have hci := hc i hlt
      have hct := child_take hin (by rw [HLM.out]; exact hlt)
      have hch := HCh.out _ hb (findV L (l.take i)) (l.getD i 0)
      rw [hct] at hch
      have hpos := HPos.out (l.take (i + 1))
      have HK := Lib.hid (fun hn => known_eq HI.out (w := l) (k := i) (by rw [HLM.out]; exact hi) hin (.inr hn))
      obtain ⟨x, hx⟩ : ∃ x, l.getD i 0 = x := ⟨_, rfl⟩
      obtain ⟨y, hy⟩ : ∃ y, findV L (l.take (i + 1)) = y := ⟨_, rfl⟩
      obtain ⟨z, hz⟩ : ∃ z, findV L (l.take i) = z := ⟨_, rfl⟩
      rw [hx] at hci hch
      rw [hy] at hch hpos
      rw [hz] at hch
      rw [hz]
      have HY := Lib.hid hy
      have HZ := Lib.hid hz
      have HCH := Lib.hid hch
      clear hb hin hc hct hch hx hy hz
      by_cases hmem : l.take (i + 1) ∈ L
      · have hyn := hpos hmem
        have hb1 : (y == -1) = false := by simpa using hyn
        have HMEM := Lib.hid hmem
        clear hpos hmem hyn
        go_wp2_with (go_at_call 59; refine HCH.out.mono ?_; rintro e w9 ⟨rfl, hb9⟩; have HB9 := Lib.hid (bel_step HB.out hb9); clear hb9)
        go_roundw
        case rel => exact ⟨i + 1, by omega, by go_num, by rw [HY.out], HMEM.out, HB9.out⟩
        case measure => simp [intOf]; omega
      · have hyn : y = -1 := by rw [← HY.out]; exact findV_not hmem
        have hb1 : (y == -1) = true := by rw [hyn]; rfl
        have hk := HK.out hmem
        have HKN := Lib.hid hk
        clear hpos hmem hyn hk
        go_wp2_with (go_at_call 59; refine HCH.out.mono ?_; rintro e w9 ⟨rfl, hb9⟩; have HB9 := Lib.hid (bel_step HB.out hb9); clear hb9)
        go_ret2
        exact ⟨by unfold walkN; rw [HKN.out, HZ.out]; rfl, HB9.out⟩
    · obtain rfl : i = m := by omega
      have hltI : ¬ (i : Int) < (i : Int) := by omega
      have hk := known_eq HI.out (w := l) (k := i) (by rw [HLM.out]; exact hi) hin (.inl HLM.out.symm)
      have HKN := Lib.hid hk
      clear hk hin hb
      obtain ⟨z, hz⟩ : ∃ z, findV L (l.take i) = z := ⟨_, rfl⟩
      rw [hz]
      have HZ := Lib.hid hz
      clear hz
      go_wp2
      go_ret2
      exact ⟨by unfold walkN; rw [HKN.out, HZ.out]; rfl, HB.out⟩
end Go.Proofs.Ytehmbnloplamaaa

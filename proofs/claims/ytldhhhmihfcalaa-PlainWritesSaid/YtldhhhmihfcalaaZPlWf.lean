/- Whether all pixels fit a format, by the code; a list in parts of one length, handed out one by one: over any memory. Condition: not too many. -/
import Derived.Test.YtldhhhmihfcalaaZgAE
import Derived.Test.YtldhhhmihfcalaaZQPixF
import Derived.Test.YtldhhhmihfcalaaZgAA
import Derived.RegionIn
namespace Go.Proofs.Ytldhhhmihfcalaa
open Go.RowKit Go.Shelf
set_option linter.unusedVariables false

set_option maxRecDepth 100000 in
set_option maxHeartbeats 4000000 in
theorem plFit_any (a : Option Addr) (n cap : Nat) (l : List Int) (G : Hd.H) (hn : n ≤ 9223372036854775807) (hl : ∀ p ∈ l, Pq.Px.U p) (w : World) (hs : SlK .u64 w a n l) :
    Calls Try.prog 86 #[.slice a n cap, .agg #[.int .i64 (Hj.chan G), .int .i64 G.m]] w fun e w' => e = .returned (.bool (Pl.fitAll G l)) ∧ Below w.heap.size w w' := by
  obtain ⟨V, hV⟩ : ∃ V, Pl.fitAll G l = V := ⟨_, rfl⟩
  rw [hV]
  have HV := Lib.hid hV
  have HS := Lib.hid hs
  have HU := Lib.hid hl
  have HL := Lib.hid hs.1
  obtain ⟨C, hC⟩ : ∃ C, Hj.chan G = C := ⟨_, rfl⟩
  rw [hC]
  have HC := Lib.hid hC
  have hlen0 : ¬ (n : Int) < 0 := by omega
  clear hs hl hV hC
  go_enter Try.func86, Try.ntmps86
  go_upto_region 1 with fail
  generalize hW : w.alloc (.cells #[.int .i64 C, .int .i64 G.m] 137) = w1
  have HB1 : Hid (Below w.heap.size w w1) := by show Below _ _ _; rw [← hW]; exact box1' _ _
  have hf0 : w1.cell? ⟨w.heap.size, 0, none⟩ = some (.int .i64 C) := by rw [← hW]; simp [go_sem]
  have hf1 : w1.cell? ⟨w.heap.size, 1, none⟩ = some (.int .i64 G.m) := by rw [← hW]; simp [go_sem]
  obtain ⟨fb, hfb⟩ : ∃ k, w.heap.size = k := ⟨_, rfl⟩
  rw [hfb] at hf0 hf1
  have hfl : fb < w1.heap.size := by rw [← hfb, ← hW]; simp
  have HF0 := Lib.hid hf0; have HF1 := Lib.hid hf1
  have HFB := Lib.hid hfb
  clear hW hf0 hf1
  rw [hfb]
  clear hfb
  go_wp2_with fail
  go_loopw [9] (fun u9 wr => ∃ i : Nat, i ≤ n ∧ u9 = .int .i64 i ∧ (∀ j, j < i → Pq.Px.fitsV (l.getD j 0) C G.m = true) ∧ Below w1.heap.size w1 wr) (fun u9 _ => n - (intOf u9).toNat)
  case atStart => exact ⟨0, Nat.zero_le _, rfl, (fun j hj => absurd hj (Nat.not_lt_zero _)), .refl _ _⟩
  case round =>
    obtain ⟨i, hi, rfl, hfit, hB⟩ := hrel
    have HB := Lib.hid hB
    have HFIT := Lib.hid hfit
    have f0 := cell_later hB HF0.out
    have f1 := cell_later hB HF1.out
    clear hB hfit
    by_cases hlt : i < n
    · have hil : i < l.length := by rw [HL.out]; exact hlt
      obtain ⟨p, hp⟩ : ∃ p, l.getD i 0 = p := ⟨_, rfl⟩
      have hU : Pq.Px.U p := by rw [← hp]; exact HU.out _ (getD_mem hil)
      obtain ⟨F, hF⟩ : ∃ F, Pq.Px.fitsV p C G.m = F := ⟨_, rfl⟩
      have HFT : Hid (∀ W, Calls Try.prog 113 #[.int .u64 p, .agg #[.int .i64 C, .int .i64 G.m]] W fun e w' => e = .returned (.bool F) ∧ Below W.heap.size W w') := Lib.hid fun W => by rw [← hF]; exact Pq.fits_any p C G.m hU W
      have HFF := Lib.hid (show Pq.Px.fitsV (l.getD i 0) C G.m = F by rw [hp]; exact hF)
      obtain ⟨blk, off, ha, c0⟩ : ∃ blk off, a = some ⟨blk, off, none⟩ ∧ wr.cell? ⟨blk, off + i, none⟩ = some (.int .u64 p) := by
        rcases HS.out.2 with h | ⟨blk, off, rfl, hc⟩
        · omega
        · exact ⟨blk, off, rfl, cell_later (HB1.out.trans (HB.out.mono HB1.out.size)) (by rw [hc i hlt, hp])⟩
      subst ha
      have HIL := Lib.hid hil
      clear hp hU hF hil
      cases F with
      | false =>
        have HVV : Hid (V = false) := by
          refine Lib.hid ?_
          rw [← HV.out]
          exact Pl.fitAll_no HIL.out (by rw [HC.out]; exact HFF.out)
        go_wp2_with fail
        refine (HFT.out _).mono ?_
        rintro e w2 ⟨rfl, hb⟩
        have HB2 := Lib.hid hb
        clear hb
        go_wp2_with fail
        go_ret
        rw [HVV.out]
        exact ⟨rfl, HB1.out.trans ((HB.out.trans (HB2.out.mono HB.out.size)).mono HB1.out.size)⟩
      | true =>
        go_wp2_with fail
        refine (HFT.out _).mono ?_
        rintro e w2 ⟨rfl, hb⟩
        have HB2 := Lib.hid hb
        clear hb
        have FITN : Hid (∀ j, j < i + 1 → Pq.Px.fitsV (l.getD j 0) C G.m = true) := Lib.hid fun j hj => by
          by_cases he : j = i
          · rw [he]; exact HFF.out
          · exact HFIT.out j (by omega)
        go_wp2_with fail
        go_roundw
        case rel => exact ⟨i + 1, by omega, by go_num, FITN.out, HB.out.trans (HB2.out.mono HB.out.size)⟩
        case measure => simp [intOf]; omega
    · have hin : i = n := by omega
      subst hin
      have HVV : Hid (V = true) := by
        refine Lib.hid ?_
        rw [← HV.out]
        exact Pl.fitAll_yes (fun j hj => by rw [HC.out]; exact HFIT.out j (by rw [HL.out] at hj; exact hj))
      go_wp2_with fail
      go_ret
      rw [HVV.out]
      exact ⟨rfl, HB1.out.trans (HB.out.mono HB1.out.size)⟩
/-- what Chunk hands back -/
def ChMade (v : Value) (c : Nat) (w : World) (e : Ending) (w' : World) : Prop :=
  ∃ nb bb, e = .returned (.func (.func 114) #[] #[.pointer (some ⟨nb, 0, none⟩), .pointer (some ⟨bb, 0, none⟩)]) ∧ nb ≠ bb ∧ w.heap.size ≤ nb ∧ w.heap.size ≤ bb ∧ nb < w'.heap.size ∧ bb < w'.heap.size ∧
    w'.cell? ⟨nb, 0, none⟩ = some v ∧ w'.cell? ⟨bb, 0, none⟩ = some (.int .i64 c) ∧ Below w.heap.size w w'
theorem ch_made (a : Option Addr) (len cap c : Nat) (hc : 1 ≤ c) (w : World) : Calls Try.prog 88 #[.slice a len cap, .int .i64 c] w (ChMade (.slice a len cap) c w) := by
  have h1 : ¬ (c : Int) < 1 := by omega
  go_enter Try.func88, Try.ntmps88
  go_wp2
  go_ret
  exact ⟨_, _, rfl, by omega, by omega, by omega, by simp; omega, by simp, by simp [go_sem], by simp [go_sem], by go_grown⟩
end Go.Proofs.Ytldhhhmihfcalaa

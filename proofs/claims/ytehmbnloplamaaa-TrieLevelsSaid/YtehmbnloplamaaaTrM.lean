/- The document's tree: its rows in memory; where a path stands. No condition but that lengths fit. -/
import Derived.Test.YtehmbnloplamaaaTrPut
import Derived.Test.YtehmbnloplamaaaFv5
import Derived.Test.YtehmbnloplamaaaSamU
import Derived.Deep.LoopGhost
import Derived.LoopN
import Derived.Deep.CutRange
import Derived.Deep.CutBlock
import Derived.Deep.DeepCutAuto
import Derived.Deep.RegionHeld3
import Derived.Deep.RegionLaw
import Derived.BigQuiet
namespace Go.Proofs.Ytehmbnloplamaaa
open Go.RowKit
set_option linter.unusedVariables false
open Tr
/-- a list of slices of numbers, each by name -/
structure Rv (w : World) (a : Option Addr) (n : Nat) (vs : List Value) (R : LL) : Prop where
  vl : vs.length = n
  rl : R.length = n
  cells : n = 0 ∨ ∃ b o, a = some ⟨b, o, none⟩ ∧ ∀ i, i < n → w.cell? ⟨b, o + i, none⟩ = some (vs.getD i (.bool false))
  each : ∀ i, i < n → ∃ ai ci, vs.getD i (.bool false) = .slice ai (R.getD i []).length ci ∧ SlK .u64 w ai (R.getD i []).length (R.getD i []) ∧ (R.getD i []).length ≤ ci ∧ ci ≤ 9223372036854775807
theorem Rv.later {w w' : World} {a : Option Addr} {n : Nat} {vs : List Value} {R : LL} (h : Rv w a n vs R) (hb : Below w.heap.size w w') : Rv w' a n vs R := by
  refine ⟨h.vl, h.rl, ?_, fun i hi => ?_⟩
  · rcases h.cells with h0 | ⟨b, o, e, hc⟩
    · exact .inl h0
    · exact .inr ⟨b, o, e, fun i hi => cell_later hb (hc i hi)⟩
  · obtain ⟨ai, ci, e1, e2, e3, e4⟩ := h.each i hi
    exact ⟨ai, ci, e1, e2.below hb, e3, e4⟩
/-- two slices in a block of two cells -/
def Tv (w : World) (b : Nat) (u v : Value) : Prop := w.heap[b]? = some (.cells #[u, v] 25 (0, 0))
section
variable {w w' : World} {b : Nat} {u v : Value}
theorem Tv.lt (h : Tv w b u v) : b < w.heap.size := (Array.getElem?_eq_some_iff.1 h).1
theorem Tv.later (h : Tv w b u v) (hb : Below w.heap.size w w') : Tv w' b u v := (hb.block b h.lt).trans h
theorem Tv.cells (h : Tv w b u v) : w.cell? ⟨b, 0, none⟩ = some u ∧ w.cell? ⟨b, 1, none⟩ = some v := by
  have h' : w.heap[b]? = _ := h
  refine ⟨?_, ?_⟩ <;> simp [World.cell?, h']
theorem Tv.fr (h : Tv w b u v) : w.frozen? ⟨b, 0, none⟩ = false ∧ w.frozen? ⟨b, 1, none⟩ = false := by
  have h' : w.heap[b]? = _ := h
  refine ⟨?_, ?_⟩ <;> simp [World.frozen?, h']
theorem Tv.new (w : World) (u v : Value) : Tv (w.alloc (.cells #[u, v] 25)) w.heap.size u v := World.alloc_heap_new w _
theorem Tv.set0 (h : Tv w b u v) (x : Value) : Tv (w.setCell ⟨b, 0, none⟩ x) b x v := by
  have := set_same 0 x (show w.heap[b]? = _ from h)
  simpa [Tv] using this
theorem Tv.set1 (h : Tv w b u v) (x : Value) : Tv (w.setCell ⟨b, 1, none⟩ x) b u x := by
  have := set_same 1 x (show w.heap[b]? = _ from h)
  simpa [Tv] using this
theorem load_tv (h : Tv w b u v) : (loadVar 25 ⟨b, 0, none⟩).run Try.prog w = .ok (.agg #[u, v]) w := by
  obtain ⟨h0, h1⟩ := h.cells
  simp [go_sem, h0, h1]
end
set_option maxRecDepth 100000 in
set_option maxHeartbeats 1000000 in
theorem find_tr {w : World} {la wa pa : Option Addr} {ln lc wn wc pn pc : Nat} {vs : List Value} {L : LL} {p : List Int} (h : Rv w la ln vs L) (hn : ln ≤ 9223372036854775807) (hp : SlK .u64 w pa pn p) (hpn : pn ≤ 9223372036854775807) :
    Calls Try.prog 48 #[.agg #[.slice la ln lc, .slice wa wn wc], .slice pa pn pc] w fun e w' => e = .returned (.int .i64 (findV L p)) ∧ Below w.heap.size w w' := by
  have hb := box1T w (.cells #[.slice la ln lc, .slice wa wn wc] 25)
  have HB := Lib.hid hb
  have HS := Lib.hid (Tv.new w (.slice la ln lc) (.slice wa wn wc))
  have HR := Lib.hid (h.later hb)
  have HP := Lib.hid (hp.below hb)
  have HF0 := Lib.hid (fun (k : Nat) (hk : k < L.length) (e : L.getD k [] = p) (h : ∀ j, j < k → L.getD j [] ≠ p) => findV_hit hk e h)
  have HF1 := Lib.hid (fun (h : ∀ j, j < L.length → L.getD j [] ≠ p) => findV_none h)
  obtain ⟨r, hr⟩ : ∃ r, findV L p = r := ⟨_, rfl⟩
  rw [hr] at HF0 HF1 ⊢
  have hrl := h.rl
  have HRL := Lib.hid hrl
  obtain ⟨W, hW⟩ : ∃ W, w.alloc (.cells #[.slice la ln lc, .slice wa wn wc] 25) = W := ⟨_, rfl⟩
  rw [hW] at HB HS HR HP
  clear h hp hb hr hrl
  go_enter Try.func48, Try.ntmps48
  go_upto_region 1 with fail
  try rw [hW]
  clear hW
  go_wp2_with fail
  go_loopw [5] (fun s5 wr => ∃ k : Nat, k ≤ ln ∧ s5 = .int .i64 k ∧ (∀ j, j < k → L.getD j [] ≠ p) ∧ Below W.heap.size W wr) (fun s5 _ => ln - (intOf s5).toNat)
  case atStart => exact ⟨0, Nat.zero_le _, rfl, fun j hj => by omega, Below.refl _ _⟩
  case round =>
    obtain ⟨k, hk, rfl, hno, hbr⟩ := hrel
    have HNO := Lib.hid hno
    have HBR := Lib.hid hbr
    obtain ⟨t0, t1⟩ := (HS.out.later hbr).cells
    by_cases hlt : k < ln
    · have hltI : (k : Int) < (ln : Int) := by omega
      have hk0 : (0 : Int) ≤ (k : Int) := Int.natCast_nonneg _
      have hRr := HR.out.later hbr
      obtain ⟨ai, ci, e1, e2, e3, e4⟩ := hRr.each k hlt
      have hcl : ∃ b o, la = some ⟨b, o, none⟩ ∧ wr.cell? ⟨b, o + k, none⟩ = some (.slice ai (L.getD k []).length ci) := by
        rcases hRr.cells with h0 | ⟨b, o, e, hc⟩
        · omega
        · exact ⟨b, o, e, by rw [hc k hlt, e1]⟩
      obtain ⟨b, o, rfl, hc⟩ := hcl
      have HSR := Lib.hid (Su.sameRow_any ai pa (L.getD k []).length pn ci pc (L.getD k []) p wr (by omega) e2 (HP.out.below hbr))
      have HHit := Lib.hid (fun (e : L.getD k [] = p) => HF0.out k (by rw [HRL.out]; exact hlt) e hno)
      obtain ⟨x, hx⟩ : ∃ x, L.getD k [] = x := ⟨_, rfl⟩
      rw [hx] at hc HSR HHit
      have HX := Lib.hid hx
      obtain ⟨xl, hxl⟩ : ∃ xl, x.length = xl := ⟨_, rfl⟩
      rw [hxl] at hc HSR
      clear hx hxl hRr e1 e2 e3 e4 hno hbr
      by_cases hxp : x = p
      · have hr := HHit.out hxp
        have HRR := Lib.hid hr
        rw [decide_eq_true hxp] at HSR
        clear hr hxp
        go_wp2_with (go_at_call 49; refine HSR.out.mono ?_; rintro e w9 ⟨rfl, hb9⟩; have HB9 := Lib.hid (bel_step HBR.out hb9); clear hb9)
        go_ret
        exact ⟨congrArg (fun z : Int => Ending.returned (.int .i64 z)) HRR.out.symm, HB.out.trans (HB9.out.mono HB.out.size)⟩
      · rw [decide_eq_false hxp] at HSR
        have HXP := Lib.hid hxp
        clear hxp
        go_wp2_with (go_at_call 49; refine HSR.out.mono ?_; rintro e w9 ⟨rfl, hb9⟩; have HB9 := Lib.hid (bel_step HBR.out hb9); clear hb9)
        go_roundw
        case rel =>
          refine ⟨k + 1, by omega, by go_num, fun j hj => ?_, HB9.out⟩
          by_cases e : j = k
          · subst e; rw [HX.out]; exact HXP.out
          · exact HNO.out j (by omega)
        case measure => simp [intOf]; omega
    · obtain rfl : k = ln := by omega
      have hltI : ¬ (k : Int) < (k : Int) := by omega
      have hr := HF1.out (fun j hj => hno j (by rw [HRL.out] at hj; exact hj))
      have HRR := Lib.hid hr
      clear hr hno hbr
      go_wp2
      go_ret
      exact ⟨congrArg (fun z : Int => Ending.returned (.int .i64 z)) HRR.out.symm, HB.out.trans (HBR.out.mono HB.out.size)⟩
end Go.Proofs.Ytehmbnloplamaaa

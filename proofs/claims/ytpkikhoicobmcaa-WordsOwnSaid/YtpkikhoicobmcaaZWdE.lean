/- The widths of a set. Condition: the set is of few rows. -/
import Derived.Test.YtpkikhoicobmcaaZWdC
import Derived.Test.YtpkikhoicobmcaaZgAB
import Derived.Test.YtpkikhoicobmcaaZWdRl
namespace Go.Proofs.Ytpkikhoicobmcaa
open Go.RowKit
set_option linter.unusedVariables false
open Tr Au Wd
namespace Wd
/-- the keys met so far -/
def Coll (D : DataW Unit) (left : Lit → Bool) (ks : List Int) : Prop := ks.Nodup ∧ ∀ x : Int, x ∈ ks ↔ (Maps.has D (.int .i64 x) = true ∧ left (.int .i64 x) = false)
theorem Coll.start (D : DataW Unit) : Coll D (Maps.has D) [] := ⟨List.nodup_nil, fun x => by cases Maps.has D (.int .i64 x) <;> simp⟩
theorem Coll.step {D : DataW Unit} {left : Lit → Bool} {ks : List Int} (h : Coll D left ks) {x : Int} {y : DataW Unit} (hlk : left (.int .i64 x) = true) (hat : ∀ zd, D.atKey (.int .i64 x) zd = y) : Coll D (fun z => left z && !z.sameKey (.int .i64 x)) (ks ++ [x]) := by
  have hhas : Maps.has D (.int .i64 x) = true := Maps.has_true_of_atKey hat
  have hnew : x ∉ ks := fun hx => by have := ((h.2 x).1 hx).2; rw [hlk] at this; cases this
  refine ⟨List.nodup_append.2 ⟨h.1, by simp, fun a ha b hb => by simp at hb; subst hb; exact fun e => hnew (e ▸ ha)⟩, fun y => ?_⟩
  by_cases hy : y = x
  · subst hy; simp [hhas, Lit.sameKey]
  · simp [h.2 y, hy, Lit.sameKey]
theorem Coll.sorted {S : LL} (hS : Ok S) {D : DataW Unit} {left : Lit → Bool} {ks : List Int} (h : Coll D left ks) (hD : ∀ x : Int, Maps.has D (.int .i64 x) = hasW S x) (hl : ∀ kl, left kl = false) : ks.mergeSort (fun x y => decide (x ≤ y)) = widV S :=
  sort_wid hS h.1 fun x => by rw [h.2 x, hl, hD x]; simp
end Wd
def WidR (S : LL) (w : World) (e : Ending) (w' : World) : Prop := ∃ a c, e = .returned (.slice a (widV S).length c) ∧ OwnK .i64 w.heap.size w' a (widV S) ∧ Below w.heap.size w w'
section
variable {w : World} {B sb tb nb nc mb : Nat} {rv : Nat → Value} {av : Value} {S : LL}
set_option maxRecDepth 100000 in
set_option maxHeartbeats 2000000 in
theorem wWidths_any (h : WsX w B sb tb nb nc mb rv av S) (hS : Ok S) (hl : S.length ≤ 100) : Calls Try.prog 14 #[.pointer (some ⟨sb, 0, none⟩)] w (WidR S w) := by
  obtain ⟨_, _, c2, _⟩ := h.cells
  obtain ⟨i0, hi, hz0, hz1, hz2⟩ := info_parts Try.info_int
  obtain ⟨D, hown, hD⟩ := h.map
  have hsz := hown.size_le
  have HS := Lib.hid hS
  have HD := Lib.hid hD
  have HOWN := Lib.hid hown
  obtain ⟨n, hn⟩ : ∃ n, S.length = n := ⟨_, rfl⟩
  rw [hn] at HOWN hsz hl
  clear h hown hD hS hn
  go_enter Try.func14, Try.ntmps14
  go_wp2_with (first
    | (at_range; refine wpList_range_own _ rfl _ 59 rfl 3 66 kint Try.underlying59 (unitElem (H := Unit)) mb n D rfl HOWN.out ?_; intro w0 hrg0 hg0 hs0)
    | go_in)
  go_frame
  have HRG0 := Lib.hid hrg0
  have HG0 := Lib.hid hg0
  clear hrg0 hg0
  go_loopw [3] (fun s3 wr => ∃ (left : Lit → Bool) (cnt : Nat) (ks : List Int) (v3 : Value), v3 = s3 ∧ wr.ranges Try.prog 3 (unitElem (H := Unit)) mb w.heap.size n D left cnt ∧ Coll D left ks ∧ ks.length + cnt ≤ n ∧ wr.ownsRow (w.heap.size + 1) 3 1 v3 ks.length (ks.map (Value.int .i64)) ∧ Below w.heap.size w wr ∧ w.heap.size + 1 ≤ wr.heap.size) (fun _ wr => wr.rangeLeft mb w.heap.size)
  case atStart => exact ⟨_, _, [], _, rfl, HRG0.out, Coll.start D, by simp; exact hsz, World.ownsRow_nil _ _ _ _, (Below.refl _ _).grown HG0.out (Nat.le_refl _) (fun j e => by cases e), by omega⟩
  case round =>
    obtain ⟨left, cnt, ks, v3, rfl, hrg, hco, hcn, hrow, hb, hsw⟩ := hrel
    have HCO := Lib.hid hco
    have HROW := Lib.hid hrow
    have HB := Lib.hid hb
    have HRG := Lib.hid hrg
    obtain ⟨m, hm⟩ : ∃ m, ks.length = m := ⟨_, rfl⟩
    have HM := Lib.hid hm
    rw [hm] at HROW hcn
    clear hco hrow hb hm
    go_wp2_with (first
      | (at_next; refine wpList_next_ranges _ rfl _ rfl 3 kint (unitElem (H := Unit)) (Value.int .i64) (fun _ : Unit => Value.agg #[]) (fun key kl hk => by obtain ⟨x, hx, _⟩ := Maps.keyOf_int_inv Try.underlying3 hk; exact ⟨x, hx⟩) (fun v y hv => ⟨(), (unitElem_inv hv).1⟩) mb w.heap.size n _ _ _ rfl hrg ?_ ?_)
      | go_in)
    · intro hc0 hl0
      have HL0 := Lib.hid hl0
      obtain ⟨a3, c3, e3⟩ := Tr.own_form HROW.out
      subst e3
      have HSO := Lib.hid (sort_own (n := m) (ownsRow_base HROW.out (Nat.le_succ _)) HB.out (by omega))
      clear hl0 hrg
      go_wp2_with (go_at_call 31; refine HSO.out.mono ?_; rintro e w5 ⟨rfl, hown, hb5⟩; have HOW := Lib.hid hown; have HB5 := Lib.hid hb5; clear hown hb5)
      go_ret
      have h9 := HOW.out
      have hsd := HCO.out.sorted HS.out HD.out HL0.out
      rw [hsd] at h9
      refine ⟨a3, c3, ?_, h9, HB5.out⟩
      rw [← hsd, List.length_mergeSort, HM.out]
      rfl
    · intro x c kl y w1 cnt1 hkey hlk hv hat hrg1 hlt hg1 hs1 hen
      obtain ⟨x', ex, rfl, hwx⟩ := Maps.keyOf_int_inv Try.underlying3 hkey
      cases ex
      have hco1 := HCO.out.step hlk hat
      have HCO1 := Lib.hid hco1
      have HRG1 := Lib.hid hrg1
      have hrow1 : w1.ownsRow (w.heap.size + 1) 3 1 v3 m (ks.map (Value.int .i64)) := own_of_block HROW.out fun g hg => hg1.block g (HROW.out.lt g hg).2 (fun e => by have := (HROW.out.lt g hg).1; injection e with e; omega)
      have HROW1 := Lib.hid hrow1
      have HB1 := Lib.hid (HB.out.grown hg1 (Nat.le_of_succ_le hsw) (fun j e => by injection e with e; omega))
      obtain ⟨a3, c3, e3⟩ := Tr.own_form hrow1
      subst e3
      have hle : cnt1 < cnt := hlt
      have hmc : m + cnt1 + 1 ≤ n := by omega
      have hsw1 : w.heap.size + 1 ≤ w1.heap.size := by omega
      clear hco1 hrg1 hrow1 hg1 hkey hlk hv hat hwx hs1
      go_wp2_with (at_builtin; refine wpList_append_lies _ rfl _ _ 31 rfl (w.heap.size + 1) 3 i0 (.int .i64 0) 1 8 Try.underlying31 hi hz0 hz1 hz2 rfl (by decide) _ m _ rfl (HROW1.out.alloc _) ⟨w1.heap.size, 0, none⟩ 1 1 [.int .i64 x] rfl rfl (one_newT2 _ _ _) (by simp [Value.oneCell']) (by omega) (by unfold maxLen; omega) (by omega) (by simp; omega) _ rfl ?_; intro gg cc w5 hown hgrow hat5 _; have HOWN5 := Lib.hid hown; have HG := Lib.hid hgrow; clear hown hgrow hat5)
      go_roundw
      case rel =>
        have hg5 := grown_trans2 HG.out
        have h9 := HOWN5.out
        have hlo : ∀ j, (Value.slice a3 m c3).ownBlock = some j → w.heap.size + 1 ≤ j := fun j e => (HROW1.out.lt j e).1
        refine ⟨_, cnt1, ks ++ [x], _, rfl, HRG1.out.kept hg5 (fun e => ?_) (fun e => ?_), HCO1.out, ?_, ?_, HB1.out.grown hg5 (by omega) (fun j e => Nat.le_of_succ_le (hlo j e)), Nat.le_trans (by omega) hg5.size⟩
        · have := hlo _ e.symm; have := HOWN.out.lt; omega
        · have := hlo _ e.symm; omega
        · rw [List.length_append, List.length_singleton, HM.out]; omega
        · rw [List.length_append, List.length_singleton, HM.out, List.map_append]; exact h9
      case measure =>
        have hg5 := grown_trans2 HG.out
        have hlo : ∀ j, (Value.slice a3 m c3).ownBlock = some j → w.heap.size + 1 ≤ j := fun j e => (HROW1.out.lt j e).1
        have h5 := HRG1.out.kept hg5 (fun e => by have := hlo _ e.symm; have := HOWN.out.lt; omega) (fun e => by have := hlo _ e.symm; omega)
        rw [h5.left_eq, HRG.out.left_eq]; omega
end
end Go.Proofs.Ytpkikhoicobmcaa

/- The document's example of layer 13; begin, ready for the laws. No condition. -/
import Derived.Test.YtehmbnloplamaaaAuS
import Derived.Test.YtehmbnloplamaaaZgAu
import Derived.Test.YtehmbnloplamaaaSamI
namespace Go.Proofs.Ytehmbnloplamaaa
open Go.RowKit
set_option linter.unusedVariables false
open Tr Au
/-- what begin hands back, of a tree known -/
def BegL (L W : LL) (w : World) (e : Ending) (w' : World) : Prop := ∃ B ab sb rv la lc vs wa wc us, e = .returned (.tuple #[.pointer (some ⟨ab, 0, none⟩), .agg #[.slice la L.length lc, .slice wa W.length wc]]) ∧ AuP w' B ab sb rv L W ∧ Rv w' la L.length vs L ∧ Rv w' wa W.length us W ∧ Below w.heap.size w w'
theorem begin13_use {w : World} {a : Option Addr} {len cap : Nat} {A : Nat → Option Addr} {N C : Nat → Nat} {Z : Nat → List Int} (hat : RowsAt w a len A N C Z) (hlen : len ≤ 9223372036854775807) (raw : Bool) :
    ∃ L W, (L, W) = treeOf (own13 raw N Z (min len 8)) ∧ Iw L W ∧ 1 ≤ L.length ∧ L.length ≤ 41 ∧ W.length ≤ 8 ∧ (∀ p ∈ L, p.length ≤ 5) ∧ (∀ x ∈ W, x.length ≤ 5) ∧
      Calls Try.prog 10 #[.slice a len cap, .bool raw] w (BegL L W w) := by
  have hb := begin13_tr (cap := cap) hat hlen raw
  have hos := own13_short raw N Z (min len 8)
  have hol := own13_len raw N Z (min len 8)
  obtain ⟨own, hown⟩ : ∃ own, own13 raw N Z (min len 8) = own := ⟨_, rfl⟩
  rw [hown] at hb hos hol ⊢
  have hI := treeOf_iw own
  have htl := treeOf_len own hos
  refine ⟨(treeOf own).1, (treeOf own).2, rfl, hI, hI.inv.pos, by omega, by omega, paths_short hos, fun x hx => ?_, hb⟩
  rw [treeOf_words] at hx; exact hos x (List.mem_filter.1 hx).1
theorem live_rows (w : World) (t1 t2 t3 : TypeId) : RowsAt (((w.alloc (.cells #[.int .u64 1, .int .u64 2, .int .u64 1] t1)).alloc (.cells #[.int .u64 2, .int .u64 1] t2)).alloc (.cells #[.slice (some ⟨w.heap.size, 0, none⟩) 3 3, .slice (some ⟨(w.alloc (.cells #[.int .u64 1, .int .u64 2, .int .u64 1] t1)).heap.size, 0, none⟩) 2 2] t3))
    (some ⟨((w.alloc (.cells #[.int .u64 1, .int .u64 2, .int .u64 1] t1)).alloc (.cells #[.int .u64 2, .int .u64 1] t2)).heap.size, 0, none⟩) 2 (fun i => if i = 0 then some ⟨w.heap.size, 0, none⟩ else some ⟨(w.alloc (.cells #[.int .u64 1, .int .u64 2, .int .u64 1] t1)).heap.size, 0, none⟩) (fun i => if i = 0 then 3 else 2) (fun i => if i = 0 then 3 else 2) (fun i => if i = 0 then [1, 2, 1] else [2, 1]) := by
  have e1 := World.alloc_heap_new w (.cells #[.int .u64 1, .int .u64 2, .int .u64 1] t1)
  have b1 := box1T w (.cells #[.int .u64 1, .int .u64 2, .int .u64 1] t1)
  obtain ⟨w1, h1⟩ : ∃ w1, w.alloc (.cells #[.int .u64 1, .int .u64 2, .int .u64 1] t1) = w1 := ⟨_, rfl⟩
  rw [h1] at e1 b1 ⊢
  have e2 := World.alloc_heap_new w1 (.cells #[.int .u64 2, .int .u64 1] t2)
  have b2 := box1T w1 (.cells #[.int .u64 2, .int .u64 1] t2)
  obtain ⟨w2, h2⟩ : ∃ w2, w1.alloc (.cells #[.int .u64 2, .int .u64 1] t2) = w2 := ⟨_, rfl⟩
  rw [h2] at e2 b2 ⊢
  have e3 := World.alloc_heap_new w2 (.cells #[.slice (some ⟨w.heap.size, 0, none⟩) 3 3, .slice (some ⟨w1.heap.size, 0, none⟩) 2 2] t3)
  have b3 := box1T w2 (.cells #[.slice (some ⟨w.heap.size, 0, none⟩) 3 3, .slice (some ⟨w1.heap.size, 0, none⟩) 2 2] t3)
  obtain ⟨w3, h3⟩ : ∃ w3, w2.alloc (.cells #[.slice (some ⟨w.heap.size, 0, none⟩) 3 3, .slice (some ⟨w1.heap.size, 0, none⟩) 2 2] t3) = w3 := ⟨_, rfl⟩
  rw [h3] at e3 b3 ⊢
  have l1 : w.heap.size < w1.heap.size := (Array.getElem?_eq_some_iff.1 e1).1
  have l2 : w1.heap.size < w2.heap.size := (Array.getElem?_eq_some_iff.1 e2).1
  have k1 := (b3.block w.heap.size (by omega)).trans ((b2.block w.heap.size l1).trans e1)
  have k2 := (b3.block w1.heap.size l2).trans e2
  intro r hr
  have hr2 : r = 0 ∨ r = 1 := by omega
  rcases hr2 with rfl | rfl
  · refine ⟨⟨w2.heap.size, 0, rfl, by simp [World.cell?, e3]⟩, .inr ⟨⟨w.heap.size, 0, none⟩, rfl, by decide, by decide, rfl, fun i hi => ?_, by decide⟩⟩
    have hi3 : i = 0 ∨ i = 1 ∨ i = 2 := by simp at hi; omega
    rcases hi3 with rfl | rfl | rfl <;> simp [World.cell?, Addr.add, k1]
  · refine ⟨⟨w2.heap.size, 0, rfl, by simp [World.cell?, e3]⟩, .inr ⟨⟨w1.heap.size, 0, none⟩, rfl, by decide, by decide, rfl, fun i hi => ?_, by decide⟩⟩
    have hi3 : i = 0 ∨ i = 1 := by simp at hi; omega
    rcases hi3 with rfl | rfl <;> simp [World.cell?, Addr.add, k2]

theorem live_tree : treeOf (own13 false (fun i => if i = 0 then 3 else 2) (fun i => if i = 0 then [1, 2, 1] else [2, 1]) (min 2 8)) = ([[], [1], [1, 2], [1, 2, 1], [2], [2, 1]], [[1, 2, 1], [2, 1]]) := by kernel_rfl
theorem live_runs : runs [[], [1], [1, 2], [1, 2, 1], [2], [2, 1]] 0 [1, 2, 1] 3 = [1, 2, 3] := by kernel_rfl
theorem live_fin : finV [[], [1], [1, 2], [1, 2, 1], [2], [2, 1]] [[1, 2, 1], [2, 1]] 3 = [0, 1] := by kernel_rfl
theorem begin_live (w : World) (t1 t2 t3 : TypeId) : ∃ L W, L = [[], [1], [1, 2], [1, 2, 1], [2], [2, 1]] ∧ W = [[1, 2, 1], [2, 1]] ∧ Iw L W ∧
    Calls Try.prog 10 #[.slice (some ⟨w.heap.size + 1 + 1, 0, none⟩) 2 2, .bool false]
      (((w.alloc (.cells #[.int .u64 1, .int .u64 2, .int .u64 1] t1)).alloc (.cells #[.int .u64 2, .int .u64 1] t2)).alloc (.cells #[.slice (some ⟨w.heap.size, 0, none⟩) 3 3, .slice (some ⟨w.heap.size + 1, 0, none⟩) 2 2] t3))
      (BegL L W (((w.alloc (.cells #[.int .u64 1, .int .u64 2, .int .u64 1] t1)).alloc (.cells #[.int .u64 2, .int .u64 1] t2)).alloc (.cells #[.slice (some ⟨w.heap.size, 0, none⟩) 3 3, .slice (some ⟨w.heap.size + 1, 0, none⟩) 2 2] t3))) := by
  obtain ⟨L, W, hT, hI, _, _, _, _, _, hB⟩ := begin13_use (cap := 2) (live_rows w t1 t2 t3) (by decide) false
  rw [live_tree] at hT
  have e2 : ((w.alloc (.cells #[.int .u64 1, .int .u64 2, .int .u64 1] t1)).alloc (.cells #[.int .u64 2, .int .u64 1] t2)).heap.size = w.heap.size + 1 + 1 := by simp
  have e1 : (w.alloc (.cells #[.int .u64 1, .int .u64 2, .int .u64 1] t1)).heap.size = w.heap.size + 1 := by simp
  rw [e2, e1] at hB
  exact ⟨L, W, congrArg Prod.fst hT, congrArg Prod.snd hT, hI, hB⟩
theorem lit_sl {k : IntKind} {w : World} {t : TypeId} {l : List Int} {n : Nat} (hl : l.length = n) : SlK k (w.alloc (.cells (l.map (Value.int k)).toArray t)) (some ⟨w.heap.size, 0, none⟩) n l := by
  have h1 := World.alloc_heap_new w (.cells (l.map (Value.int k)).toArray t)
  obtain ⟨W1, hW1⟩ : ∃ W1, w.alloc (.cells (l.map (Value.int k)).toArray t) = W1 := ⟨_, rfl⟩
  rw [hW1] at h1 ⊢
  refine ⟨hl, .inr ⟨_, _, rfl, fun i hi => ?_⟩⟩
  rw [Nat.zero_add]
  simp [World.cell?, h1, List.getD_eq_getElem?_getD, List.getElem?_eq_getElem (show i < l.length by omega)]
theorem run_live {w : World} {B ab sb : Nat} {rv : Nat → Value} {a : Option Addr} {c : Nat} (h : AuP w B ab sb rv [[], [1], [1, 2], [1, 2, 1], [2], [2, 1]] [[1, 2, 1], [2, 1]]) (hI : Iw [[], [1], [1, 2], [1, 2, 1], [2], [2, 1]] [[1, 2, 1], [2, 1]]) (hs : SlK .u64 w a 3 [1, 2, 1]) :
    Calls Try.prog 24 #[.pointer (some ⟨ab, 0, none⟩), .int .i64 0, .slice a 3 c] w fun e w' => ∃ g c, e = .returned (.slice (some ⟨g, 0, none⟩) 3 c) ∧ (∀ w'', Below w'.heap.size w' w'' → w''.cell? ⟨g, 2, none⟩ = some (.int .i64 3)) ∧ Below w.heap.size w w' := by
  refine (run_P h hI 0 hs (by omega)).mono ?_
  intro e w' h
  unfold RunR at h
  rw [if_neg (by decide), if_neg (by decide), show ([1, 2, 1] : List Int).length = 3 from rfl, live_runs] at h
  obtain ⟨a, c, e1, e2, e3⟩ := h
  rcases e2 with e2 | ⟨g, rfl, _, _, h2, _⟩
  · cases e2
  · exact ⟨g, c, e1, fun w'' hb => cell_later hb (h2 2 (by decide)), e3⟩
theorem ends_live {w : World} {B ab sb : Nat} {rv : Nat → Value} (h : AuP w B ab sb rv [[], [1], [1, 2], [1, 2, 1], [2], [2, 1]] [[1, 2, 1], [2, 1]]) (hI : Iw [[], [1], [1, 2], [1, 2, 1], [2], [2, 1]] [[1, 2, 1], [2, 1]]) :
    Calls Try.prog 18 #[.pointer (some ⟨ab, 0, none⟩), .int .i64 3] w fun e w' => ∃ a c, e = .returned (.slice a 2 c) ∧ SlK .i64 w' a 2 [0, 1] ∧ Below w.heap.size w w' := by
  refine (ends_P h hI (by decide) 3).mono ?_
  intro e w' h
  unfold EndsR at h
  rw [live_fin] at h
  obtain ⟨a, c, e1, e2, e3⟩ := h
  exact ⟨a, c, e1, e2.sl, e3⟩
set_option maxRecDepth 100000 in
set_option maxHeartbeats 1000000 in
theorem lives13_any (w : World) : Calls Try.prog 20 #[] w fun e w' => e = .returned (.bool true) ∧ Below w.heap.size w w' := by
  obtain ⟨L, W, hL, hW, hI, hB⟩ := begin_live w 39 39 43
  have HBG := Lib.hid hB
  have HI := Lib.hid hI
  have HLE := Lib.hid hL
  have HWE := Lib.hid hW
  clear hB hI hL hW
  unfold BegL at HBG
  go_enter Try.func20, Try.ntmps20
  go_upto_region 4 with (go_at_call 10; (with_reducible refine HBG.out.mono ?_); rintro e w1 ⟨B, ab, sb, rv, la, lc, vs, wa, wc, us, rfl, hA, hrl, hrw, hb⟩; have HA := Lib.hid hA; have HB := Lib.hid hb; clear hA hrl hrw hb)
  obtain rfl := HLE.out
  obtain rfl := HWE.out
  have hba := box1T w1 (.cells #[.slice la 6 lc, .slice wa 2 wc] 25)
  obtain ⟨W2, hW2⟩ : ∃ W2, w1.alloc (.cells #[.slice la 6 lc, .slice wa 2 wc] 25) = W2 := ⟨_, rfl⟩
  rw [hW2] at hba
  rw [show ([[], [1], [1, 2], [1, 2, 1], [2], [2, 1]] : LL).length = 6 from rfl, show ([[1, 2, 1], [2, 1]] : LL).length = 2 from rfl, hW2]
  have hb3 := box1T W2 (.cells #[.int .u64 1, .int .u64 2, .int .u64 1] 39)
  have HR := Lib.hid (run_live (c := 3) (HA.out.later (hba.trans (hb3.mono hba.size))) HI.out (lit_sl (k := .u64) (w := W2) (t := 39) (l := [1, 2, 1]) (n := 3) rfl))
  have HB3 := Lib.hid (bel_step (bel_step HB.out hba) hb3)
  have HA3 := Lib.hid (HA.out.later (hba.trans (hb3.mono hba.size)))
  clear hba hb3 hW2
  go_upto_region 7 with (go_at_call 24; (with_reducible refine HR.out.mono ?_); rintro e w4 ⟨g, c4, rfl, hc, hb⟩; have HC := Lib.hid hc; have HB4 := Lib.hid hb; have c0 := hc _ (Below.refl _ _); clear hc hb)
  have HE := Lib.hid (ends_live (HA3.out.later HB4.out) HI.out)
  go_wp2_with (first
    | (go_at_call 18; refine HE.out.mono ?_; rintro e w5 ⟨a5, c5, rfl, hs, hb⟩; have HS5 := Lib.hid (hs.below (box1T w5 (.cells #[.int .i64 0, .int .i64 1] 3))); have HS6 := Lib.hid (lit_sl (k := .i64) (w := w5) (t := 3) (l := [0, 1]) (n := 2) rfl); have HB5 := Lib.hid (bel_step hb (box1T w5 (.cells #[.int .i64 0, .int .i64 1] 3))); clear hs hb)
    | (go_at_call 17; refine (Sm.same_self _ _ _ _ _ _ _ _ (by omega) HS5.out HS6.out).mono ?_; rintro e w7 ⟨rfl, hb⟩; have HB7 := Lib.hid hb; clear hb))
  go_ret
  exact ⟨rfl, bel_step (bel_step (bel_step (bel_step (bel_step (bel_step (box1T _ _) (box1T _ _)) (box1T _ _)) HB3.out) HB4.out) HB5.out) HB7.out⟩
end Go.Proofs.Ytehmbnloplamaaa

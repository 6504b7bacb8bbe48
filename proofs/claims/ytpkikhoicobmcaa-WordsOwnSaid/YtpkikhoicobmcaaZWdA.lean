/- What a set tells: how many rows, the row that a node is, a row; a new set. No condition. -/
import Derived.Test.YtpkikhoicobmcaaZWdMem
import Derived.Test.YtpkikhoicobmcaaZgAA
import Derived.Deep.RegionHeld3
import Derived.Deep.LoopGhost
import Derived.LoopN
import Derived.Deep.CutRange
import Derived.Deep.CutBlock
import Derived.Deep.RegionLaw
import Derived.RegionTactic
import Derived.BigQuiet
namespace Go.Proofs.Ytpkikhoicobmcaa
open Go.RowKit
set_option linter.unusedVariables false
open Tr Au Wd
/-- the first of a row of numbers -/
theorem own_first {w : World} {B : Nat} {e : TypeId} {v : Value} {m : Nat} {x : Int} {r : List Int} {q : IntKind} (h : w.ownsRow B e 1 v m ((x :: r).map (Value.int q))) (hm : 1 ≤ m) : ∃ g c, v = .slice (some ⟨g, 0, none⟩) m c ∧ w.cell? ⟨g, 0, none⟩ = some (.int q x) := by
  rcases h.2 with ⟨_, e⟩ | ⟨g, cap, cur, rfl, _⟩
  · omega
  · exact ⟨g, cap, rfl, by rw [h.cellAt 0 (by omega)]; rfl⟩
def rowV' (S : LL) (n : Int) : List Int := if out S n then [] else S.getD n.toNat []
theorem path_word {S : LL} (hS : Ok S) (n : Int) : pathV (pathsOf S) (wordV (pathsOf S) S n) = rowV' S n := by
  unfold wordV rowV'
  by_cases h : out S n
  · rw [if_pos h, if_pos h]; unfold pathV; rw [if_pos (.inl (by omega))]
  · rw [if_neg h, if_neg h]
    have hm : S.getD n.toNat [] ∈ S := gD_mem (by unfold out at h; omega)
    have hp := in_paths hS hm
    have hi := idx_lt_iff.2 hp
    rw [findV_mem hp]; unfold pathV
    rw [if_neg (by unfold out; omega), Int.toNat_natCast, idx_at hp]
section
variable {w : World} {B sb tb nb nc mb : Nat} {rv : Nat → Value} {av : Value} {S : LL}
theorem wLen_any (h : WsX w B sb tb nb nc mb rv av S) : Calls Try.prog 12 #[.pointer (some ⟨sb, 0, none⟩)] w fun e w' => e = .returned (.int .i64 S.length) ∧ w = w' := by
  obtain ⟨c0, c1, c2, c3⟩ := h.cells
  clear h c0 c2 c3
  go_enter Try.func12, Try.ntmps12
  go_wp2
  go_ret
  exact ⟨rfl, rfl⟩
set_option maxHeartbeats 1000000 in
theorem wNumber_any (h : WsX w B sb tb nb nc mb rv av S) (hS : Ok S) (hl : S.length ≤ 1000) (n : Int) : Calls Try.prog 38 #[.pointer (some ⟨sb, 0, none⟩), .int .i64 n] w fun e w' => e = .returned (.int .i64 (numV S n)) ∧ Below w.heap.size w w' := by
  obtain ⟨c0, _, _, _⟩ := h.cells
  have HW := Lib.hid (words_tr h.tree (fun x hx => in_paths hS hx) (by omega) n)
  have hwl := wordsV_len (pathsOf S) S n
  unfold numV
  obtain ⟨ws, hws⟩ : ∃ ws, wordsV (pathsOf S) S n = ws := ⟨_, rfl⟩
  rw [hws] at HW hwl ⊢
  clear h hws
  cases ws with
  | nil =>
    show Calls _ _ _ _ fun e w' => e = .returned (.int .i64 (-1)) ∧ _
    go_enter Try.func38, Try.ntmps38
    go_wp2_with (go_at_call 54; refine HW.out.mono ?_; rintro e w1 ⟨v, rfl, ho, hb⟩; obtain ⟨a1, c1, ev⟩ := Tr.own_form ho; have HB := Lib.hid hb; subst ev; rw [List.length_nil]; clear ho hb)
    go_ret
    exact ⟨rfl, HB.out⟩
  | cons x r =>
    show Calls _ _ _ _ fun e w' => e = .returned (.int .i64 x) ∧ _
    obtain ⟨m, hm⟩ : ∃ m, (x :: r).length = m := ⟨_, rfl⟩
    rw [hm] at HW hwl
    have hm1 : 1 ≤ m := by rw [← hm]; simp
    have hmI : (0 : Int) < (m : Int) := by omega
    have hm0 : ((m : Int) == 0) = false := by rw [beq_eq_false_iff_ne]; omega
    have hmb : ¬ m = 0 := by omega
    clear hm
    go_enter Try.func38, Try.ntmps38
    go_wp2_with (go_at_call 54; refine HW.out.mono ?_; rintro e w1 ⟨v, rfl, ho, hb⟩; obtain ⟨g, c1, ev, hc⟩ := own_first ho hm1; have HB := Lib.hid hb; subst ev; clear ho hb)
    go_ret
    exact ⟨rfl, HB.out⟩
set_option maxHeartbeats 1000000 in
theorem wRow_any (h : WsX w B sb tb nb nc mb rv av S) (hS : Ok S) (hlen : ∀ p ∈ pathsOf S, p.length ≤ 1000) (n : Int) : Calls Try.prog 11 #[.pointer (some ⟨sb, 0, none⟩), .int .i64 n] w (KidsR (rowV' S n) w) := by
  obtain ⟨c0, _, _, _⟩ := h.cells
  have HWo := Lib.hid (fun W (hb : Below w.heap.size w W) => word_tr (h.tree.later hb) n)
  have HPa := Lib.hid (fun W (hb : Below w.heap.size w W) => path_tr (h.tree.later hb) (paths_iw hS).inv (wordV (pathsOf S) S n) hlen)
  rw [path_word hS n] at HPa
  unfold KidsR at HPa ⊢
  obtain ⟨y, hy⟩ : ∃ y, wordV (pathsOf S) S n = y := ⟨_, rfl⟩
  rw [hy] at HWo HPa
  have hBr := Below.refl w.heap.size w
  clear h hy
  go_enter Try.func11, Try.ntmps11
  go_wp2_with fail
  go_region_held3 (fun w' => w'.cell? ⟨sb, 0, none⟩ = some (.pointer (some ⟨tb, 0, none⟩)))
    (first | exact c0 | exact cell_later hBr c0)
    (first
      | (go_at_call 30; refine (HWo.out _ (by first | exact hBr | exact hBr.drew)).mono ?_; rintro e w8 ⟨rfl, rfl⟩; replace hBr := (by first | exact hBr.drew | exact hBr : Below w.heap.size w _))
      | (go_at_call 29; refine (HPa.out _ (by first | exact hBr | exact hBr.drew)).mono ?_; rintro e w8 ⟨v, rfl, ho, hb8⟩; have HO := Lib.hid ho; have HS8 := Lib.hid (by first | exact hBr.size | exact hBr.drew.size : w.heap.size ≤ _); replace hBr := bel_step (by first | exact hBr | exact hBr.drew) hb8; clear ho hb8))
  all_goals
    go_wp2_with fail
    go_ret
    exact ⟨_, rfl, ownsRow_base HO.out HS8.out, hBr⟩
end
end Go.Proofs.Ytpkikhoicobmcaa

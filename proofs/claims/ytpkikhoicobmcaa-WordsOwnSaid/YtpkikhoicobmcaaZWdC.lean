/- A new set; a set with a row more. Condition: the set is of few rows, the row short. -/
import Derived.Test.YtpkikhoicobmcaaZWdA
import Derived.Test.YtpkikhoicobmcaaZgAC
import Derived.Carry
namespace Go.Proofs.Ytpkikhoicobmcaa
open Go.RowKit
set_option linter.unusedVariables false
open Tr Au Wd
theorem wNew_any (w : World) : Calls Try.prog 26 #[] w fun e w' => ∃ sb tb nb mb, e = .returned (.pointer (some ⟨sb, 0, none⟩)) ∧ WsX w' w.heap.size sb tb nb 1 mb (fun _ => .slice none 0 0) (.pointer none) [] ∧ Below w.heap.size w w' := by
  have hmm := @run_makeMap Try.prog
  have HT := Lib.hid (new_tr w)
  go_enter Try.func26, Try.ntmps26
  go_wp2_with (go_at_call 42; refine HT.out.mono ?_; rintro e w1 ⟨tb, nb, rfl, hT, hb, h1, h2⟩; have HT1 := Lib.hid hT; have HB1 := Lib.hid hb; clear hT hb h1 h2)
  go_ret
  have hs := HB1.out.size
  have b1 := box1T w1 (.map #[] 0)
  have b2 := box1T (w1.alloc (.map #[] 0)) (.cells #[.pointer (some ⟨tb, 0, none⟩), .int .i64 0, .map (some w1.heap.size), .pointer none] 62)
  refine ⟨_, tb, nb, w1.heap.size, by first | rfl | simp, ⟨by omega, hs, ?_, HT1.out.later (bel_step b1 b2), ⟨.map [], ?_, fun x => ?_⟩⟩, bel_step HB1.out (bel_step b1 b2)⟩
  · simpa using World.alloc_heap_new (w1.alloc (.map #[] 0)) (.cells #[.pointer (some ⟨tb, 0, none⟩), .int .i64 0, .map (some w1.heap.size), .pointer none] 62)
  · exact (World.ownsMap_made w1 Try.prog 3 (unitElem (H := Unit))).alloc _
  · show false = _
    unfold hasW; symm; rw [decide_eq_false_iff_not]; rintro ⟨r, hr, _⟩; cases hr
/-- what Add hands back -/
def AddR (w : World) (B sb tb nb mb : Nat) (rv : Nat → Value) (av : Value) (S : LL) (l : List Int) (e : Ending) (w' : World) : Prop := e = .returned (.tuple #[.int .i64 (if l = [] then -1 else findV (addS S l) l), .int .i64 (if l = [] then 1 else 0)]) ∧ ∃ nb' nc' rv' av', (av = .pointer none → av' = .pointer none) ∧ WsX w' B sb tb nb' nc' mb rv' av' (addS S l) ∧ Turn w (Fw sb tb nb mb (pathsOf S).length rv) w' (Fw sb tb nb' mb (pathsOf (addS S l)).length rv')
section
variable {w : World} {B sb tb nb nc mb : Nat} {rv : Nat → Value} {av : Value} {S : LL}
theorem known_full {L : LL} (hI : Inv L) {l : List Int} : known L l = l.length ↔ l ∈ L := by
  constructor
  · intro h
    have := known_mem hI l
    rw [h, List.take_length] at this; exact this
  · intro h
    exact known_eq hI (Nat.le_refl _) (by rw [List.take_length]; exact h) (.inl rfl)
theorem walk_full {L : LL} (hI : Inv L) {l : List Int} (h : l ∈ L) : walkN L l = findV L l := by
  unfold walkN; rw [(known_full hI).2 h, List.take_length]
theorem find_pos {S : LL} {l : List Int} (h : l ∈ S) : findV S l ≠ -1 := by
  have := findV_pos.2 h; omega
/-- the row is there already -/
theorem wAdd_old (h : WsX w B sb tb nb nc mb rv av S) (hS : Ok S) (hl : S.length ≤ 100) {a : Option Addr} {m c : Nat} {l : List Int} (hs : SlK .u64 w a m l) (hm : m ≤ 100) (hin : l ∈ S) :
    Calls Try.prog 23 #[.pointer (some ⟨sb, 0, none⟩), .slice a m c] w (AddR w B sb tb nb mb rv av S l) := by
  obtain ⟨c0, _, _, _⟩ := h.cells
  have hlm : l.length = m := hs.1
  have hI := paths_iw hS
  have hp := in_paths hS hin
  have HW := Lib.hid (walk_tr (c := c) h.tree hI.inv hs (by omega))
  rw [walk_full hI.inv hp, (known_full hI.inv).2 hp, hlm] at HW
  have HN := Lib.hid (fun W (hb : Below w.heap.size w W) => wNumber_any (h.later hb) hS (by omega) (findV (pathsOf S) l))
  rw [numV_find hS hp] at HN
  have h0 : l ≠ [] := fun e => hS.ne (e ▸ hin)
  have hadd : addS S l = S := by unfold addS; rw [if_neg h0, if_pos hin]
  have hne := find_pos hin
  unfold AddR
  rw [hadd, if_neg h0, if_neg h0]
  obtain ⟨y, hy⟩ : ∃ y, findV S l = y := ⟨_, rfl⟩
  obtain ⟨z, hz⟩ : ∃ z, findV (pathsOf S) l = z := ⟨_, rfl⟩
  rw [hy] at HN hne ⊢
  rw [hz] at HN HW
  have hne2 : (y != -1) = true := by rw [bne_iff_ne]; exact hne
  have HX := Lib.hid h
  clear h hs hlm hI hp h0 hadd hy hz hin
  go_enter Try.func23, Try.ntmps23
  go_wp2_with (go_at_call 39; refine HW.out.mono ?_; rintro e w1 ⟨rfl, hb⟩; have HB1 := Lib.hid hb; clear hb)
  refine (HN.out _ HB1.out).mono ?_
  rintro e w2 ⟨rfl, hb⟩
  have HB2 := Lib.hid (bel_step HB1.out hb)
  clear hb
  go_wp2_with (go_at_call 38; refine (HN.out _ HB2.out).mono ?_; rintro e w3 ⟨rfl, hb⟩; have HB3 := Lib.hid (bel_step HB2.out hb); clear hb)
  go_ret2
  exact ⟨rfl, nb, nc, rv, av, id, HX.out.later HB3.out, ⟨sep_of HB3.out, fun g hg => .inl hg⟩⟩
end
end Go.Proofs.Ytpkikhoicobmcaa

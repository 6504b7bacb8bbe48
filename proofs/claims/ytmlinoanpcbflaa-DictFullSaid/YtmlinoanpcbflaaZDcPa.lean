/- The document's example for dict, by the code. No condition. -/
import Derived.Test.YtmlinoanpcbflaaZDcL
import Derived.Test.YtmlinoanpcbflaaZgAF
namespace Go.Proofs.Ytmlinoanpcbflaa
open Go.RowKit
set_option linter.unusedVariables false
open Dc
namespace Dc
def X0 : Im := (1, 9, 2, 2, [281474976710657, 281474976710658, 281474976710658, 281474976710657])
def T8 : List Int := [0, 1, 2, 3, 4, 5, 6, 7]
theorem ris8 : risV T8 = T8 := by
  unfold risV
  rw [if_pos (by decide)]
  exact List.mergeSort_of_pairwise (by decide)
theorem x0_may : mayB X0 = true := by decide +kernel
theorem x0_fits : fitsB X0 T8 = true := by decide +kernel
theorem x0_imgs : (imgs [(X0, T8)]).length = 2 := by decide +kernel
theorem x0_area : area (imgs [(X0, T8)]) = 8 := by decide +kernel
theorem x0_own0 : (ownV [(X0, T8)] 0).length = 4 := by decide +kernel
theorem x0_own1 : (ownV [(X0, T8)] 1).length = 4 := by decide +kernel
theorem x0_add : addE [] X0 T8 = 0 := by
  unfold addE
  rw [ris8, if_neg (by rw [x0_may]; decide), if_neg (by rw [x0_fits]; decide), if_neg]
  rw [List.nil_append, x0_area]
  decide
theorem x0_addT : addT [] X0 T8 = [(X0, T8)] := by unfold addT; rw [x0_add, if_pos rfl, ris8]; rfl
theorem x0_addN : addN [] X0 T8 = 0 := by unfold addN; rw [x0_add]; rfl
theorem okD_nil : OkD [] := ⟨by decide, by decide, fun p hp => absurd hp (by simp)⟩
theorem x0_ok : OkD [(X0, T8)] := ⟨by decide, by rw [x0_area]; decide, fun p hp => by obtain rfl := List.mem_singleton.1 hp; decide⟩
theorem lit_slk {q : IntKind} (w : World) (t : TypeId) (xs : List Int) (cs : Array Value) (h : (xs.map (Value.int q)).toArray = cs) : SlK q (w.alloc (.cells cs t)) (some ⟨w.heap.size, 0, none⟩) xs.length xs := by
  subst h
  refine ⟨rfl, .inr ⟨w.heap.size, 0, rfl, fun i hi => ?_⟩⟩
  have hat := World.alloc_heap_new w (.cells (xs.map (Value.int q)).toArray t)
  rw [Nat.zero_add]
  simp only [World.cell?, hat]
  simp [hi, List.getD_eq_getElem?_getD]
end Dc
theorem x0_U : ∀ p ∈ X0.2.2.2.2, Pq.Px.U p := by
  intro p hp
  have : p = 281474976710657 ∨ p = 281474976710658 := by
    unfold X0 at hp
    simp only [List.mem_cons, List.not_mem_nil, or_false] at hp
    omega
  unfold Pq.Px.U
  rcases this with rfl | rfl <;> omega
/-- what Add comes to there -/
theorem x0_any {w : World} {F : Nat → Prop} {sb : Nat} (h : DctP w F sb []) (b B : Nat) (hb : ¬ F b) (hB : B < w.heap.size) (h1 : SlK .u64 w (some ⟨b, 0, none⟩) 4 [281474976710657, 281474976710658, 281474976710658, 281474976710657]) (h2 : SlK .i64 w (some ⟨B, 0, none⟩) 8 [0, 1, 2, 3, 4, 5, 6, 7]) :
    Calls Try.prog 8 #[.pointer (some ⟨sb, 0, none⟩), .agg #[.int .i64 1, .int .i64 9, .int .i64 2, .int .i64 2, .slice (some ⟨b, 0, none⟩) 4 4], .slice (some ⟨B, 0, none⟩) 8 8] w fun e w' => e = .returned (.tuple #[.int .i64 0, .int .i64 0]) ∧ ∃ F', DctP w' F' sb [(X0, T8)] ∧ Sep F w w' := by
  have h9 := dAdd_any h okD_nil X0 (some ⟨b, 0, none⟩) 4 x0_U (by decide) (by decide) h1 (some ⟨B, 0, none⟩) 8 T8 (by decide) h2 (fun b' o e => by cases e; exact hB) (fun b' o e hF => by cases e; exact hb hF)
  refine h9.mono ?_
  rintro e w' ⟨he, F', hD, hS, _⟩
  rw [x0_addN, x0_add] at he
  rw [x0_addT] at hD
  exact ⟨he, F', hD, hS⟩
end Go.Proofs.Ytmlinoanpcbflaa

/- A matrix of noughts, and numbers in memory of the call's own, over any memory. Condition: numbers fit their kinds. -/
import Derived.Test.YtldhhhmihfcalaaRecD
import Derived.Laws.MakeOwn
import Derived.Deep.OwnRows
namespace Go.Proofs.Ytldhhhmihfcalaa
open Go.RowKit
set_option linter.unusedVariables false

/-- numbers in a block of the call's own -/
def OwnG (base : Nat) (w : World) (g : Nat) (L : List Int) : Prop := base ≤ g ∧ w.heap[g]? = some (.cells (L.map (Value.int .u64)).toArray 88 (0, 0))
theorem OwnG.lt {base g : Nat} {w : World} {L : List Int} (h : OwnG base w g L) : g < w.heap.size := (Array.getElem?_eq_some_iff.1 h.2).1
theorem OwnG.later {base g : Nat} {w w' : World} {L : List Int} (h : OwnG base w g L) (hb : Below w.heap.size w w') : OwnG base w' g L := ⟨h.1, (hb.block g h.lt).trans h.2⟩
theorem OwnG.mono {base base' g : Nat} {w : World} {L : List Int} (h : OwnG base w g L) (hb : base' ≤ base) : OwnG base' w g L := ⟨Nat.le_trans hb h.1, h.2⟩
theorem OwnG.cell {base g : Nat} {w : World} {L : List Int} (h : OwnG base w g L) {i : Nat} (hi : i < L.length) : w.cell? ⟨g, i, none⟩ = some (.int .u64 (L.getD i 0)) := by
  simp [World.cell?, h.2, List.getD_eq_getElem?_getD, List.getElem?_eq_getElem hi]
theorem OwnG.sl {base g : Nat} {w : World} {L : List Int} (h : OwnG base w g L) : SlK .u64 w (some ⟨g, 0, none⟩) L.length L := by
  refine ⟨rfl, .inr ⟨g, 0, rfl, fun i hi => ?_⟩⟩
  rw [Nat.zero_add]; exact h.cell hi
theorem OwnG.own {base g : Nat} {w : World} {L : List Int} (h : OwnG base w g L) : OwnK .u64 base w (some ⟨g, 0, none⟩) L :=
  .inr ⟨g, rfl, h.1, h.lt, fun i hi => h.cell hi, fun i => by simp [World.frozen?, h.2]⟩
theorem heapNew (w : World) (o : Obj) : (w.alloc o).heap[w.heap.size]? = some o := World.alloc_heap_new w o
theorem heapOld (w : World) (o : Obj) {g : Nat} {x : Obj} (h : w.heap[g]? = some x) : (w.alloc o).heap[g]? = some x := by
  rw [Below.heap_alloc w o g (Array.getElem?_eq_some_iff.1 h).1]; exact h
theorem heapSet (w : World) (a : Addr) (v : Value) {g : Nat} {x : Obj} (h : w.heap[g]? = some x) (hne : g ≠ a.block) : (w.setCell a v).heap[g]? = some x := by
  rw [Below.heap_setCell w a v g hne]; exact h
theorem Try.info_px : (Try.prog.info? 88).map (fun i => (i.zero, i.size, i.bytes)) = some (some (.int .u64 0), 1, 8) := by kernel_rfl
theorem made_noughts (n : Nat) : madeCells #[Value.int .u64 0] n = ((List.replicate n (0 : Int)).map (Value.int .u64)).toArray := by
  apply Array.ext
  · simp [madeCells]
  · intro i h1 h2
    simp [madeCells, Nat.mod_one]

set_option maxHeartbeats 1000000 in
theorem new_any (a b : Int) (w : World) (hs : Rc.sized a b = true) :
    Calls Try.prog 96 #[.int .i64 a, .int .i64 b] w fun e w' => ∃ g, e = .returned (.tuple #[.agg #[.int .i64 a, .int .i64 b, .slice (some ⟨g, 0, none⟩) (b.toNat * a.toNat) (b.toNat * a.toNat)], .int .i64 0]) ∧ OwnG w.heap.size w' g (List.replicate (b.toNat * a.toNat) 0) ∧ Below w.heap.size w w' := by
  obtain ⟨h1, h2, h3, h4, h5⟩ := Rc.sized_iff.1 hs
  obtain ⟨n, hn⟩ : ∃ n, b.toNat * a.toNat = n := ⟨_, rfl⟩
  have e : a * b = (n : Int) := by rw [← hn, Int.natCast_mul, Int.toNat_of_nonneg (by omega), Int.toNat_of_nonneg (by omega), Int.mul_comm]
  have e1 : wrap64 (a * b) = (n : Int) := by rw [e, IntWalk.wrap64_in] <;> omega
  rw [hn]
  clear hn
  rw [e] at h5
  clear e
  have hmk := run_make_row' (P := Try.prog) 22 88 (.int .u64 0) 8 Try.underlying22 Try.info_px rfl .i64 .i64 n (by omega) (by omega)
  rw [made_noughts] at hmk
  have hl : n ≤ 16777216 := by omega
  obtain ⟨cs, hcs⟩ : ∃ cs, ((List.replicate n (0 : Int)).map (Value.int .u64)).toArray = cs := ⟨_, rfl⟩
  rw [hcs] at hmk
  have HCS := Lib.hid hcs
  clear hcs h5 h1 h2 h3 h4
  go_enter Try.func96, Try.ntmps96
  go_wp2_with (go_at_call 95; refine (mayMeasure_any a b _).mono ?_; rw [hs]; rintro e w1 ⟨rfl, rfl⟩)
  go_returns
  refine ⟨_, rfl, ⟨?_, ?_⟩, by go_grown⟩
  · omega
  · rw [HCS.out]
    repeat (refine heapSet _ _ _ ?_ (by simp))
    simpa using heapNew (w.alloc (.cells #[.int .i64 a, .int .i64 b, .slice (some ⟨w.heap.size + 1, 0, none⟩) n n] 27)) (.cells cs 88)
theorem ownG_len {w : World} {base g n : Nat} {L : List Int} (h : OwnG base w g L) (hn : L.length = n) : SlK .u64 w (some ⟨g, 0, none⟩) n L := by rw [← hn]; exact h.sl
theorem new_no (a b : Int) (w : World) (hs : Rc.sized a b = false) :
    Calls Try.prog 96 #[.int .i64 a, .int .i64 b] w fun e w' => e = .returned (.tuple #[.agg #[.int .i64 0, .int .i64 0, .slice none 0 0], .int .i64 1]) ∧ Below w.heap.size w w' := by
  go_enter Try.func96, Try.ntmps96
  go_wp2_with (go_at_call 95; refine (mayMeasure_any a b _).mono ?_; rw [hs]; rintro e w1 ⟨rfl, rfl⟩)
  go_returns
  exact ⟨rfl, by go_grown⟩
end Go.Proofs.Ytldhhhmihfcalaa

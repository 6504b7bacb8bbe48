/- The document's reader of digits, as a value and in ten cells of a block of the call's own, over any memory; a new one; one that is wrong. No condition. -/
import Derived.Test.YtldhhhmihfcalaaPlF
import Derived.Test.YtldhhhmihfcalaaApp
namespace Go.Proofs.Ytldhhhmihfcalaa
open Go.RowKit
set_option linter.unusedVariables false

/-- a reader by the document, as a value -/
def agR (h : Hd.H) (N : Int) (v1 v2 : Value) (rows last e : Int) : Value := .agg #[.int .i64 h.kd, .int .i64 h.w, .int .i64 h.h, .int .i64 h.m, .int .i64 N, v1, v2, .int .i64 rows, .int .i64 last, .int .i64 e]
/-- ten cells in a block of the call's own -/
def RbC (w : World) (b : Nat) (h : Hd.H) (N : Int) (v1 v2 : Value) (rows last e : Int) : Prop :=
  w.heap[b]? = some (.cells #[.int .i64 h.kd, .int .i64 h.w, .int .i64 h.h, .int .i64 h.m, .int .i64 N, v1, v2, .int .i64 rows, .int .i64 last, .int .i64 e] 77 (0, 0))
section
variable {w w' : World} {b : Nat} {h : Hd.H} {N : Int} {v1 v2 : Value} {rows last e : Int}
theorem RbC.lt (H : RbC w b h N v1 v2 rows last e) : b < w.heap.size := (Array.getElem?_eq_some_iff.1 H).1
theorem RbC.later (H : RbC w b h N v1 v2 rows last e) (hb : Below w.heap.size w w') : RbC w' b h N v1 v2 rows last e := (hb.block b H.lt).trans H
theorem RbC.kept {row : Option Nat} (H : RbC w b h N v1 v2 rows last e) (hg : w.grownBy w' row) (hne : some b ≠ row) : RbC w' b h N v1 v2 rows last e := (hg.block b H.lt hne).trans H
theorem RbC.alloc (H : RbC w b h N v1 v2 rows last e) (o : Obj) : RbC (w.alloc o) b h N v1 v2 rows last e := H.kept (World.grownBy_alloc w o none) (by simp)
theorem RbC.drewN (H : RbC w b h N v1 v2 rows last e) (k : Nat) : RbC (w.drewN k) b h N v1 v2 rows last e := H
theorem RbC.sep {Z : Nat → Prop} (H : RbC w b h N v1 v2 rows last e) (hs : Sep Z w w') (hz : ¬ Z b) : RbC w' b h N v1 v2 rows last e := (hs.block b H.lt hz).trans H
theorem RbC.other (H : RbC w b h N v1 v2 rows last e) {a : Addr} (ha : b ≠ a.block) (y : Value) : RbC (w.setCell a y) b h N v1 v2 rows last e := (Below.heap_setCell w a y b ha).trans H
theorem RbC.fr (H : RbC w b h N v1 v2 rows last e) (o : Nat) : w.frozen? ⟨b, o, none⟩ = false := by have h' : w.heap[b]? = _ := H; simp [World.frozen?, h']
theorem RbC.new (w : World) (h : Hd.H) (N : Int) (v1 v2 : Value) (rows last e : Int) : RbC (w.alloc (.cells #[.int .i64 h.kd, .int .i64 h.w, .int .i64 h.h, .int .i64 h.m, .int .i64 N, v1, v2, .int .i64 rows, .int .i64 last, .int .i64 e] 77)) w.heap.size h N v1 v2 rows last e := World.alloc_heap_new w _
theorem RbC.c0 (H : RbC w b h N v1 v2 rows last e) : w.cell? ⟨b, 0, none⟩ = some (.int .i64 h.kd) := by have h' : w.heap[b]? = _ := H; simp [World.cell?, h']
theorem RbC.c1 (H : RbC w b h N v1 v2 rows last e) : w.cell? ⟨b, 1, none⟩ = some (.int .i64 h.w) := by have h' : w.heap[b]? = _ := H; simp [World.cell?, h']
theorem RbC.c2 (H : RbC w b h N v1 v2 rows last e) : w.cell? ⟨b, 2, none⟩ = some (.int .i64 h.h) := by have h' : w.heap[b]? = _ := H; simp [World.cell?, h']
theorem RbC.c3 (H : RbC w b h N v1 v2 rows last e) : w.cell? ⟨b, 3, none⟩ = some (.int .i64 h.m) := by have h' : w.heap[b]? = _ := H; simp [World.cell?, h']
theorem RbC.c4 (H : RbC w b h N v1 v2 rows last e) : w.cell? ⟨b, 4, none⟩ = some (.int .i64 N) := by have h' : w.heap[b]? = _ := H; simp [World.cell?, h']
theorem RbC.c5 (H : RbC w b h N v1 v2 rows last e) : w.cell? ⟨b, 5, none⟩ = some (v1) := by have h' : w.heap[b]? = _ := H; simp [World.cell?, h']
theorem RbC.c6 (H : RbC w b h N v1 v2 rows last e) : w.cell? ⟨b, 6, none⟩ = some (v2) := by have h' : w.heap[b]? = _ := H; simp [World.cell?, h']
theorem RbC.c7 (H : RbC w b h N v1 v2 rows last e) : w.cell? ⟨b, 7, none⟩ = some (.int .i64 rows) := by have h' : w.heap[b]? = _ := H; simp [World.cell?, h']
theorem RbC.c8 (H : RbC w b h N v1 v2 rows last e) : w.cell? ⟨b, 8, none⟩ = some (.int .i64 last) := by have h' : w.heap[b]? = _ := H; simp [World.cell?, h']
theorem RbC.c9 (H : RbC w b h N v1 v2 rows last e) : w.cell? ⟨b, 9, none⟩ = some (.int .i64 e) := by have h' : w.heap[b]? = _ := H; simp [World.cell?, h']
theorem RbC.put4 (H : RbC w b h N v1 v2 rows last e) (y : Int) : RbC (w.setCell ⟨b, 4, none⟩ (.int .i64 y)) b h y v1 v2 rows last e := by
  have h' : w.heap[b]? = _ := H
  simpa [RbC] using Go.heap_setCell_same w b 4 _ _ (.int .i64 y) h'
theorem RbC.put5 (H : RbC w b h N v1 v2 rows last e) (y : Value) : RbC (w.setCell ⟨b, 5, none⟩ y) b h N y v2 rows last e := by
  have h' : w.heap[b]? = _ := H
  simpa [RbC] using Go.heap_setCell_same w b 5 _ _ y h'
theorem RbC.put6 (H : RbC w b h N v1 v2 rows last e) (y : Value) : RbC (w.setCell ⟨b, 6, none⟩ y) b h N v1 y rows last e := by
  have h' : w.heap[b]? = _ := H
  simpa [RbC] using Go.heap_setCell_same w b 6 _ _ y h'
theorem RbC.put7 (H : RbC w b h N v1 v2 rows last e) (y : Int) : RbC (w.setCell ⟨b, 7, none⟩ (.int .i64 y)) b h N v1 v2 y last e := by
  have h' : w.heap[b]? = _ := H
  simpa [RbC] using Go.heap_setCell_same w b 7 _ _ (.int .i64 y) h'
theorem RbC.put8 (H : RbC w b h N v1 v2 rows last e) (y : Int) : RbC (w.setCell ⟨b, 8, none⟩ (.int .i64 y)) b h N v1 v2 rows y e := by
  have h' : w.heap[b]? = _ := H
  simpa [RbC] using Go.heap_setCell_same w b 8 _ _ (.int .i64 y) h'
theorem RbC.put9 (H : RbC w b h N v1 v2 rows last e) (y : Int) : RbC (w.setCell ⟨b, 9, none⟩ (.int .i64 y)) b h N v1 v2 rows last y := by
  have h' : w.heap[b]? = _ := H
  simpa [RbC] using Go.heap_setCell_same w b 9 _ _ (.int .i64 y) h'
theorem RbC.putAll (H : RbC w b h N v1 v2 rows last e) (k : Hd.H) (N2 : Int) (u1 u2 : Value) (rows2 last2 e2 : Int) : RbC ((((((((((w.setCell ⟨b, 0, none⟩ (.int .i64 k.kd)).setCell ⟨b, 1, none⟩ (.int .i64 k.w)).setCell ⟨b, 2, none⟩ (.int .i64 k.h)).setCell ⟨b, 3, none⟩ (.int .i64 k.m)).setCell ⟨b, 4, none⟩ (.int .i64 N2)).setCell ⟨b, 5, none⟩ u1).setCell ⟨b, 6, none⟩ u2).setCell ⟨b, 7, none⟩ (.int .i64 rows2)).setCell ⟨b, 8, none⟩ (.int .i64 last2)).setCell ⟨b, 9, none⟩ (.int .i64 e2)) b k N2 u1 u2 rows2 last2 e2 := by
  have h0 : w.heap[b]? = _ := H
  have h1 := Go.heap_setCell_same _ b 0 _ _ (.int .i64 k.kd) h0
  have h2 := Go.heap_setCell_same _ b 1 _ _ (.int .i64 k.w) h1
  have h3 := Go.heap_setCell_same _ b 2 _ _ (.int .i64 k.h) h2
  have h4 := Go.heap_setCell_same _ b 3 _ _ (.int .i64 k.m) h3
  have h5 := Go.heap_setCell_same _ b 4 _ _ (.int .i64 N2) h4
  have h6 := Go.heap_setCell_same _ b 5 _ _ u1 h5
  have h7 := Go.heap_setCell_same _ b 6 _ _ u2 h6
  have h8 := Go.heap_setCell_same _ b 7 _ _ (.int .i64 rows2) h7
  have h9 := Go.heap_setCell_same _ b 8 _ _ (.int .i64 last2) h8
  have h10 := Go.heap_setCell_same _ b 9 _ _ (.int .i64 e2) h9
  simpa [RbC] using h10
theorem RbC.grownAll (w : World) (b : Nat) (k : Hd.H) (N2 : Int) (u1 u2 : Value) (rows2 last2 e2 : Int) : w.grownBy ((((((((((w.setCell ⟨b, 0, none⟩ (.int .i64 k.kd)).setCell ⟨b, 1, none⟩ (.int .i64 k.w)).setCell ⟨b, 2, none⟩ (.int .i64 k.h)).setCell ⟨b, 3, none⟩ (.int .i64 k.m)).setCell ⟨b, 4, none⟩ (.int .i64 N2)).setCell ⟨b, 5, none⟩ u1).setCell ⟨b, 6, none⟩ u2).setCell ⟨b, 7, none⟩ (.int .i64 rows2)).setCell ⟨b, 8, none⟩ (.int .i64 last2)).setCell ⟨b, 9, none⟩ (.int .i64 e2)) (some b) := (((((((((grown_set _ _ _ _).trans (grown_set _ _ _ _)).trans (grown_set _ _ _ _)).trans (grown_set _ _ _ _)).trans (grown_set _ _ _ _)).trans (grown_set _ _ _ _)).trans (grown_set _ _ _ _)).trans (grown_set _ _ _ _)).trans (grown_set _ _ _ _)).trans (grown_set _ _ _ _)
theorem RbC.cells (H : RbC w b h N v1 v2 rows last e) : w.cell? ⟨b, 0, none⟩ = some (.int .i64 h.kd) ∧ w.cell? ⟨b, 1, none⟩ = some (.int .i64 h.w) ∧ w.cell? ⟨b, 2, none⟩ = some (.int .i64 h.h) ∧ w.cell? ⟨b, 3, none⟩ = some (.int .i64 h.m) ∧ w.cell? ⟨b, 4, none⟩ = some (.int .i64 N) ∧ w.cell? ⟨b, 5, none⟩ = some (v1) ∧ w.cell? ⟨b, 6, none⟩ = some (v2) ∧ w.cell? ⟨b, 7, none⟩ = some (.int .i64 rows) ∧ w.cell? ⟨b, 8, none⟩ = some (.int .i64 last) ∧ w.cell? ⟨b, 9, none⟩ = some (.int .i64 e) := ⟨H.c0, H.c1, H.c2, H.c3, H.c4, H.c5, H.c6, H.c7, H.c8, H.c9⟩
theorem RbC.frs (H : RbC w b h N v1 v2 rows last e) : w.frozen? ⟨b, 0, none⟩ = false ∧ w.frozen? ⟨b, 1, none⟩ = false ∧ w.frozen? ⟨b, 2, none⟩ = false ∧ w.frozen? ⟨b, 3, none⟩ = false ∧ w.frozen? ⟨b, 4, none⟩ = false ∧ w.frozen? ⟨b, 5, none⟩ = false ∧ w.frozen? ⟨b, 6, none⟩ = false ∧ w.frozen? ⟨b, 7, none⟩ = false ∧ w.frozen? ⟨b, 8, none⟩ = false ∧ w.frozen? ⟨b, 9, none⟩ = false := ⟨H.fr 0, H.fr 1, H.fr 2, H.fr 3, H.fr 4, H.fr 5, H.fr 6, H.fr 7, H.fr 8, H.fr 9⟩
end
theorem load_rR {w : World} {b : Nat} {h : Hd.H} {N : Int} {v1 v2 : Value} {rows last e : Int} (H : RbC w b h N v1 v2 rows last e) : (loadVar 77 ⟨b, 0, none⟩).run Try.prog w = .ok (agR h N v1 v2 rows last e) w := by
  have h' : w.heap[b]? = _ := H
  simp [go_sem, H.c0, H.c1, H.c2, H.c3, H.c4, H.c5, H.c6, H.c7, H.c8, H.c9, agR]
theorem ret_cell_tmp {P : Program} {fn : Func} {p u : Tmp} {ty : TypeId} (h : fn.results = #[.cell p ty, .tmp u]) (tmps : Array Value) (w : World) (b : Nat) (val : Value) (hp : tmps.getD p undef = .pointer (some ⟨b, 0, none⟩)) (hl : (loadVar ty ⟨b, 0, none⟩).run P w = .ok val w) :
    (results fn tmps).run P w = .ok (.tuple #[val, tmps.getD u undef]) w := by
  have hp' : tmps[p]?.getD undef = .pointer (some ⟨b, 0, none⟩) := by simpa using hp
  simp only [results, h]
  simp [hp', asAddr, hl, Result.andThen]
def Pl.nn (s : Pl.S) : Int := if s.d = true then s.n else -1
/-- v is the document's reader where s says -/
def RfV (w : World) (v : Value) (s : Pl.S) : Prop :=
  ∃ a1 c1 a2 c2, v = agR s.h (Pl.nn s) (.slice a1 s.one.length c1) (.slice a2 s.row.length c2) s.rows s.last s.e ∧ SlK .i64 w a1 s.one.length s.one ∧ SlK .u64 w a2 s.row.length s.row
theorem RfV.later {w w' : World} {v : Value} {s : Pl.S} (h : RfV w v s) (hb : Below w.heap.size w w') : RfV w' v s := by
  obtain ⟨a1, c1, a2, c2, hv, h1, h2⟩ := h
  exact ⟨a1, c1, a2, c2, hv, h1.below hb, h2.below hb⟩
/-- what the document's reader hands back of a byte -/
def RfR (w : World) (q : Pl.S × List Int) (e : Ending) (w' : World) : Prop :=
  ∃ v a c, e = .returned (.tuple #[v, .slice a q.2.length c]) ∧ RfV w' v q.1 ∧ SlK .u64 w' a q.2.length q.2 ∧ Below w.heap.size w w'
set_option maxRecDepth 100000 in
set_option maxHeartbeats 1000000 in
theorem refPlNew_any (h : Hd.H) (w : World) :
    Calls Try.prog 43 #[agH h] w fun e w' => e = .returned (agR h (-1) (.slice none 0 0) (.slice none 0 0) 0 0 0) ∧ Below w.heap.size w w' := by
  unfold agH agR
  go_enter Try.func43, Try.ntmps43
  go_wp2
  go_returns
  exact ⟨rfl, by go_grown⟩
theorem rf_new (h : Hd.H) (w : World) : RfV w (agR h (-1) (.slice none 0 0) (.slice none 0 0) 0 0 0) (Pl.new h) := ⟨none, 0, none, 0, rfl, ⟨rfl, .inl rfl⟩, ⟨rfl, .inl rfl⟩⟩
set_option maxRecDepth 100000 in
set_option maxHeartbeats 1000000 in
theorem refWrong_any (h : Hd.H) (N : Int) (a1 a2 : Option Addr) (n1 c1 n2 c2 : Nat) (rows last e er : Int) (w : World) :
    Calls Try.prog 79 #[agR h N (.slice a1 n1 c1) (.slice a2 n2 c2) rows last e, .int .i64 er] w fun r w' => r = .returned (agR h N (.slice a1 n1 c1) (.slice a2 n2 c2) rows 2 er) ∧ Below w.heap.size w w' := by
  unfold agR
  go_enter Try.func79, Try.ntmps79
  go_wp2
  go_returns
  exact ⟨rfl, by go_grown⟩
end Go.Proofs.Ytldhhhmihfcalaa

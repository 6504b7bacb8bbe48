/- A struct of three cells in a block of the call's own, as a result too; a row that is copied into one. No condition. -/
import Derived.Test.YtldhhhmihfcalaaRecE
import Derived.Deep.RegionHeld3
import Derived.Laws.CopyOwn
namespace Go.Proofs.Ytldhhhmihfcalaa
open Go.RowKit
set_option linter.unusedVariables false

/-- three cells in a block of the call's own -/
def Sb (w : World) (b : Nat) (t : TypeId) (u v x : Value) : Prop := w.heap[b]? = some (.cells #[u, v, x] t (0, 0))
section
variable {w w' : World} {b : Nat} {t : TypeId} {u v x : Value}
theorem Sb.lt (h : Sb w b t u v x) : b < w.heap.size := (Array.getElem?_eq_some_iff.1 h).1
theorem Sb.later (h : Sb w b t u v x) (hb : Below w.heap.size w w') : Sb w' b t u v x := (hb.block b h.lt).trans h
theorem Sb.row (h : Sb w b t u v x) {g : Nat} (cs : Array Value) (hne : b ≠ g) : Sb (w.setRow g cs) b t u v x := (setRow_other w g b cs hne).trans h
theorem Sb.cells (h : Sb w b t u v x) : w.cell? ⟨b, 0, none⟩ = some u ∧ w.cell? ⟨b, 1, none⟩ = some v ∧ w.cell? ⟨b, 2, none⟩ = some x := by
  have h' : w.heap[b]? = _ := h
  refine ⟨?_, ?_, ?_⟩ <;> simp [World.cell?, h']
theorem Sb.fr (h : Sb w b t u v x) : w.frozen? ⟨b, 0, none⟩ = false ∧ w.frozen? ⟨b, 1, none⟩ = false ∧ w.frozen? ⟨b, 2, none⟩ = false := by
  have h' : w.heap[b]? = _ := h
  refine ⟨?_, ?_, ?_⟩ <;> simp [World.frozen?, h']
theorem Sb.new (w : World) (t : TypeId) (u v x : Value) : Sb (w.alloc (.cells #[u, v, x] t)) w.heap.size t u v x := World.alloc_heap_new w _
theorem Sb.alloc (h : Sb w b t u v x) (o : Obj) : Sb (w.alloc o) b t u v x := heapOld w o h
theorem Sb.put (h : Sb w b t u v x) (u' v' x' : Value) : Sb (((w.setCell ⟨b, 0, none⟩ u').setCell ⟨b, 1, none⟩ v').setCell ⟨b, 2, none⟩ x') b t u' v' x' := by
  have h' : w.heap[b]? = _ := h
  have h1 := Go.heap_setCell_same w b 0 _ t u' h'
  have h2 := Go.heap_setCell_same _ b 1 _ t v' h1
  have h3 := Go.heap_setCell_same _ b 2 _ t x' h2
  simpa [Sb] using h3
theorem Sb.set (h : Sb w b t u v x) (a : Addr) (y : Value) (hne : b ≠ a.block) : Sb (w.setCell a y) b t u v x := heapSet w a y h hne
theorem Sb.drew (h : Sb w b t u v x) : Sb w.drew b t u v x := h
theorem OwnG.drew {base g : Nat} {L : List Int} (h : OwnG base w g L) : OwnG base w.drew g L := h
theorem OwnG.set {base g : Nat} {L : List Int} (h : OwnG base w g L) (a : Addr) (y : Value) (hne : g ≠ a.block) : OwnG base (w.setCell a y) g L := ⟨h.1, heapSet w a y h.2 hne⟩
theorem OwnG.alloc {base g : Nat} {L : List Int} (h : OwnG base w g L) (o : Obj) : OwnG base (w.alloc o) g L := ⟨h.1, heapOld w o h.2⟩
end
theorem load_mt {w : World} {b : Nat} {t : TypeId} {u v x : Value} (h : Sb w b t u v x) : (loadVar 27 ⟨b, 0, none⟩).run Try.prog w = .ok (.agg #[u, v, x]) w := by
  obtain ⟨h0, h1, h2⟩ := h.cells
  simp [go_sem, h0, h1, h2]
theorem load_m {w : World} {b : Nat} {t : TypeId} {u v x : Value} (h : Sb w b t u v x) : (loadVar 24 ⟨b, 0, none⟩).run Try.prog w = .ok (.agg #[u, v, x]) w := by
  obtain ⟨h0, h1, h2⟩ := h.cells
  simp [go_sem, h0, h1, h2]
theorem ret_cell1 {P : Program} {fn : Func} {p : Tmp} {ty : TypeId} (h : fn.results = #[.cell p ty]) (tmps : Array Value) (w : World) (b : Nat) (val : Value) (hp : tmps.getD p undef = .pointer (some ⟨b, 0, none⟩)) (hl : (loadVar ty ⟨b, 0, none⟩).run P w = .ok val w) :
    (results fn tmps).run P w = .ok val w := by
  have hp' : tmps[p]?.getD undef = .pointer (some ⟨b, 0, none⟩) := by simpa using hp
  simp only [results, h]
  simp [hp', asAddr, hl]
theorem ret_cell2 {P : Program} {fn : Func} {p u : Tmp} {ty : TypeId} (h : fn.results = #[.cell p ty, .tmp u]) (tmps : Array Value) (w : World) (b : Nat) (val : Value) (hp : tmps.getD p undef = .pointer (some ⟨b, 0, none⟩)) (hl : (loadVar ty ⟨b, 0, none⟩).run P w = .ok val w) :
    (results fn tmps).run P w = .ok (.tuple #[val, tmps.getD u undef]) w := by
  rw [results_cell_tmp h, hp]
  simp [asAddr, Result.andThen, hl]
theorem step_copy_row {P : Program} {ops : Array Oper} {o : Oper} {a : Act} {w : World} {K : Act → World → Prop} {Q : Exit → Act → World → Prop} {E : Prop} (hgd : o.guard = none) (d s : Operand) (dT sT : TypeId)
    (ho : o.op = .call { callee := .builtin .copy, args := #[d, s], argTypes := #[dT, sT] }) (elem : TypeId) (hu : P.underlying dT = some (.slice elem)) (hsz : (P.info? elem).map (·.size) = some 1)
    (g off dLen dCap : Nat) (ad : Addr) (sLen sCap : Nat) (hd : a.eval d = .slice (some ⟨g, off, none⟩) dLen dCap) (hs : a.eval s = .slice (some ad) sLen sCap)
    (cur : List Value) (t : TypeId) (hg : w.heap[g]? = some (.cells cur.toArray t (0, 0))) (cs : List Value) (hn : cs.length = Nat.min sLen dLen)
    (hsrc : ∀ j v, cs[j]? = some v → w.cell? (ad.add j) = some v) (hfit : off + cs.length ≤ cur.length) (h1 : ∀ v ∈ cs, v.oneCell' = true)
    (h : ∀ v9 : Value, K (a.put o.dst v9) (w.setRow g (splice cur off cs).toArray)) :
    if Region.wanted o (yielded ops a.tmps) = true then Oper.wp P o a w K Q else E := by
  have hw : Region.wanted o (yielded ops a.tmps) = true := by simp [Region.wanted, hgd]
  rw [if_pos hw]
  have hrun := run_copy_row (P := P) w dT sT o.type elem g off dLen dCap ad sLen sCap cur.toArray t cs hu hsz hg hn hsrc (by simpa using hfit) h1
  unfold Oper.wp
  simp [execOp, ho, resolve, invoke, builtin, hd, hs, hrun, Result.andThen]
  have h' := h (goInt cs.length)
  unfold splice at h'
  exact h'
theorem Try.size_px : (Try.prog.info? 88).map (·.size) = some 1 := by kernel_rfl
theorem ownG_row {base g : Nat} {w : World} {L : List Int} (h : OwnG base w g L) (off : Nat) (cs : List Int) : OwnG base (w.setRow g (splice (L.map (Value.int .u64)) off (cs.map (Value.int .u64))).toArray) g (splice L off cs) := by
  refine ⟨h.1, ?_⟩
  rw [setRow_heap w g _ _ _ _ h.2]
  simp [splice]
theorem Rc.rows_noughts {f : Nat → List Int} (m : Nat) : ∀ n, Rc.rowsOf (fun j => if j < 0 then f j else List.replicate m 0) n = List.replicate (n * m) 0
  | 0 => by simp [Rc.rowsOf_zero]
  | n + 1 => by rw [Rc.rowsOf_succ, Rc.rows_noughts m n]; simp [Nat.succ_mul, List.replicate_append_replicate]
theorem one_px (zs : List Int) : ∀ u ∈ zs.map (Value.int .u64), u.oneCell' = true := by
  intro u hu
  obtain ⟨y, _, rfl⟩ := List.mem_map.1 hu
  rfl
/-- the numbers of a row that is cut out, as a copy's source -/
theorem cut_src {w : World} {b off p m : Nat} {L : List Int} (h : ∀ i, i < L.length → w.cell? ⟨b, off + i, none⟩ = some (.int .u64 (L.getD i 0))) (hp : p + m ≤ L.length) :
    ∀ j v, (((L.drop p).take m).map (Value.int .u64))[j]? = some v → w.cell? ((⟨b, off + p, none⟩ : Addr).add j) = some v := by
  intro j v hv
  rw [List.getElem?_map, List.getElem?_take] at hv
  split at hv
  · rename_i hj
    rw [List.getElem?_drop, List.getElem?_eq_getElem (by omega)] at hv
    simp at hv; subst hv
    rw [addrK_add, Nat.add_assoc, h (p + j) (by omega), List.getD_eq_getElem?_getD, List.getElem?_eq_getElem (by omega)]; rfl
  · simp at hv

end Go.Proofs.Ytldhhhmihfcalaa

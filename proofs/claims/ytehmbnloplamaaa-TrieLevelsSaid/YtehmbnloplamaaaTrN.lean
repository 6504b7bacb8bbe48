/- The document's tree with a word more. No condition but that lengths fit. -/
import Derived.Test.YtehmbnloplamaaaTrM
import Derived.Test.YtehmbnloplamaaaApp
namespace Go.Proofs.Ytehmbnloplamaaa
open Go.RowKit
set_option linter.unusedVariables false
open Tr
/-- a value is a slice of these numbers -/
def Ok1 (w : World) (v : Value) (p : List Int) : Prop := ∃ ai ci, v = .slice ai p.length ci ∧ SlK .u64 w ai p.length p ∧ p.length ≤ ci ∧ ci ≤ 9223372036854775807
def OkV (w : World) (vs : List Value) (R : LL) : Prop := vs.length = R.length ∧ ∀ i, i < R.length → Ok1 w (vs.getD i (.bool false)) (R.getD i [])
theorem OkV.snoc {w : World} {vs : List Value} {R : LL} {v : Value} {p : List Int} (h : OkV w vs R) (k : Ok1 w v p) : OkV w (vs ++ [v]) (R ++ [p]) := by
  obtain ⟨h1, h2⟩ := h
  refine ⟨by rw [List.length_append, List.length_append, h1]; rfl, fun i hi => ?_⟩
  rw [List.length_append, List.length_singleton] at hi
  by_cases hl : i < R.length
  · rw [gD_app (by omega), gD_app hl]; exact h2 i hl
  · obtain rfl : i = R.length := by omega
    rw [gD_new, ← h1, gD_new]; exact k
theorem Ok1.one {w : World} {v : Value} {p : List Int} (h : Ok1 w v p) : v.oneCell' = true := by obtain ⟨a, c, rfl, _⟩ := h; rfl
theorem Rv.ok {w : World} {a : Option Addr} {n : Nat} {vs : List Value} {R : LL} (h : Rv w a n vs R) : OkV w vs R := ⟨by rw [h.vl, h.rl], fun i hi => h.each i (by rw [h.rl] at hi; exact hi)⟩
theorem OkV.one {w : World} {vs : List Value} {R : LL} (h : OkV w vs R) : ∀ u ∈ vs, u.oneCell' = true := fun u hu => by
  obtain ⟨i, hi, rfl⟩ := List.getElem_of_mem hu
  have := h.2 i (by rw [← h.1]; exact hi)
  rw [gD hi] at this
  exact this.one
theorem rv_own {w : World} {B : Nat} {e : TypeId} {a : Option Addr} {n c : Nat} {vs : List Value} {R : LL} (h : w.ownsRow B e 1 (.slice a n c) n vs) (k : OkV w vs R) (hn : R.length = n) : Rv w a n vs R := by
  have hv : vs.length = n := by rw [k.1, hn]
  refine ⟨hv, hn, ?_, fun i hi => k.2 i (by rw [hn]; exact hi)⟩
  rcases h.2 with ⟨_, h0⟩ | ⟨g, cap, cur, e1, _⟩
  · exact .inl h0
  · injection e1 with e1 e2 e3
    subst e1 e3
    exact .inr ⟨g, 0, rfl, fun i hi => by rw [Nat.zero_add, h.cellAt i (by omega), List.getElem?_eq_getElem (by omega), gD (by omega)]⟩
/-- an append of slices that are read somewhere -/
def CellsV (w : World) (a : Option Addr) (m : Nat) (us : List Value) : Prop := us.length = m ∧ (m = 0 ∨ ∃ b o, a = some ⟨b, o, none⟩ ∧ ∀ i, i < m → w.cell? ⟨b, o + i, none⟩ = some (us.getD i (.bool false)))
theorem Rv.cv {w : World} {a : Option Addr} {n : Nat} {vs : List Value} {R : LL} (h : Rv w a n vs R) : CellsV w a n vs := ⟨h.vl, h.cells⟩
theorem run_appV {P : Program} {w : World} (base : Nat) (t ty e : TypeId) (i : TypeInfo) (z : Value) (bytes : Nat) (ht : P.underlying t = some (.slice e)) (hi : P.info? e = some i) (hz : i.zero = some z)
    (hsize : i.size = 1) (hby : i.bytes = bytes) (hzs : z.cells.size = 1) (v : Value) (n : Nat) (xs : List Value) (hown : w.ownsRow base e 1 v n xs)
    (a : Option Addr) (m c : Nat) (us : List Value) (hy : CellsV w a m us) (h1 : ∀ u ∈ us, u.oneCell' = true) (h63 : n + m ≤ maxLen) (hbytes : (n + m) * bytes ≤ 140737488355328) (hbase : base ≤ w.heap.size) :
    ∃ v' w', (Builtin.append_ #[t, t] ty #[v, .slice a m c]).run P w = .ok v' w' ∧ w'.ownsRow base e 1 v' (n + m) (xs ++ us) ∧ w.grownBy w' v.ownBlock ∧ (v'.ownBlock = v.ownBlock ∨ v'.ownBlock = some w.heap.size) := by
  obtain ⟨hl, hc⟩ := hy
  cases a with
  | none =>
    have hm : m = 0 := by
      rcases hc with h | ⟨_, _, h, _⟩
      · exact h
      · cases h
    subst hm
    have hl0 : us = [] := List.length_eq_zero_iff.1 hl
    subst hl0
    exact ⟨v, w, app_none base t ty e i 1 ht hi v n c xs hown, by simpa using hown, ⟨rfl, rfl, rfl, Nat.le_refl _, fun _ _ _ => rfl⟩, .inl rfl⟩
  | some ad =>
    obtain ⟨v', w', h1, h2, h3, _, h5⟩ := run_append_own_at (P := P) w base t ty e i z 1 bytes ht hi hz hsize hby hzs (by decide) v n xs hown ad m c us (by rw [hl, Nat.mul_one]) (fun j u hu => by
      have hj : j < m := by
        rcases Nat.lt_or_ge j m with h | h
        · exact h
        · rw [List.getElem?_eq_none (by omega)] at hu; cases hu
      rcases hc with h | ⟨blk, off, ha, hcell⟩
      · omega
      · cases ha
        rw [addrK_add, hcell j hj, gD (by omega)]
        rw [List.getElem?_eq_getElem (by omega)] at hu
        exact hu) h1 h63 hbytes hbase
    exact ⟨v', w', h1, h2, h3, h5⟩
theorem wpList_appV {P : Program} {w : World} {ops : Array Oper} {rest : List Oper} {o : Oper} {a : Act} {Q : Exit → Act → World → Prop} (hgd : o.guard = none) (s x : Operand) (t : TypeId)
    (ho : o.op = .call { callee := .builtin .append, args := #[s, x], argTypes := #[t, t] })
    (base : Nat) (e : TypeId) (i : TypeInfo) (z : Value) (bytes : Nat) (ht : P.underlying t = some (.slice e)) (hi : P.info? e = some i) (hz : i.zero = some z)
    (hsize : i.size = 1) (hby : i.bytes = bytes) (hzs : z.cells.size = 1) (v : Value) (n : Nat) (xs : List Value) (hs : a.eval s = v) (hown : w.ownsRow base e 1 v n xs)
    (ad : Option Addr) (m c : Nat) (us : List Value) (hx : a.eval x = .slice ad m c) (hy : CellsV w ad m us) (h1 : ∀ u ∈ us, u.oneCell' = true) (h63 : n + m ≤ maxLen) (hbytes : (n + m) * bytes ≤ 140737488355328) (hbase : base ≤ w.heap.size)
    (h : ∀ v' w', w'.ownsRow base e 1 v' (n + m) (xs ++ us) → w.grownBy w' v.ownBlock → (v'.ownBlock = v.ownBlock ∨ v'.ownBlock = some w.heap.size) → wpList P ops Q rest (a.put o.dst v') w') : wpList P ops Q (o :: rest) a w := by
  refine wpList_plain hgd fun K hK => ?_
  obtain ⟨v', w', hr, h2, h3, h4⟩ := run_appV (P := P) (w := w) base t o.type e i z bytes ht hi hz hsize hby hzs v n xs hown ad m c us hy h1 h63 hbytes hbase
  unfold Oper.wp execOp
  simp only [ho, resolve, invoke, builtin, Sem.run_bind, Sem.run_pure, Result.andThen_ok, List.map_toArray, List.map_cons, List.map_nil, hs, hx, hr]
  exact hK _ _ (h v' w' h2 h3 h4)
theorem Try.info_pxs : (Try.prog.info? 43).map (fun i => (i.zero, i.size, i.bytes)) = some (some (.slice none 0 0), 1, 24) := by kernel_rfl
theorem slk_take {q : IntKind} {w : World} {a : Option Addr} {n : Nat} {l : List Int} (h : SlK q w a n l) {k : Nat} (hk : k ≤ n) : SlK q w a k (l.take k) := by
  obtain ⟨h1, h2⟩ := h
  refine ⟨by rw [List.length_take, h1]; omega, ?_⟩
  rcases h2 with h2 | ⟨b, o, e, hc⟩
  · exact .inl (by omega)
  · exact .inr ⟨b, o, e, fun i hi => by rw [hc i (by omega), List.getD_eq_getElem?_getD, List.getD_eq_getElem?_getD, List.getElem?_take_of_lt hi]⟩
end Go.Proofs.Ytehmbnloplamaaa

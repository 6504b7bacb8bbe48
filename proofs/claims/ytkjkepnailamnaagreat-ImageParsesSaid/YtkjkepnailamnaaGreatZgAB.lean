/- Plain facts on what an image begins with: a reader of a head as a plain function, the head that a text begins with. No condition. -/
import Derived.Test.YtkjkepnailamnaaGreatZgAA
import Derived.Laws.EntriesVeiled
import Derived.Laws.StructEq
import Derived.Test.YtkjkepnailamnaaGreatProg
import Derived.Laws.BytesArg
import Derived.WalkSpells
import Derived.WalkLawsBesides
import Derived.Handy
import Derived.Lib.Hide
import Derived.Deep.RegionHeld3
import Derived.Deep.DeepCutAuto
import Derived.Deep.QuietTactic
import Derived.BigQuiet
import Derived.Laws.BitsAllLaws
import Derived.Deep.LoopGhost
import Derived.Lib.ConvBytes
import Derived.Laws.AppendOwn
import Derived.LoopN
import Derived.RegionIn
import Derived.Stop.RegionWithIn
import Derived.Laws.CopyOwn
import Derived.Laws.Append
import Derived.Deep.AppendSrc
import Derived.Laws.IdiomCopy
import Derived.Room.Entries
import Derived.Laws.OwnMore
import Derived.Deep.AppendLies
import Derived.WalkKit
import Derived.RegionTactic
import Derived.Lib.Walk
import Derived.Sort.WalkB12
import Derived.Lib.SlicesMore
import Derived.Lib.OwnBridge
import Derived.OwnWalkIn
import Derived.TacticsInMore
import Derived.LoopNIn
import Derived.LoopIn
namespace Go.Proofs.YtkjkepnailamnaaGreat
open Go.RowKit
set_option linter.unusedVariables false
namespace Hd
def lim (n hi : Int) : Int := if n < 1 then 1 else if hi < n then hi else n
theorem lim_at {n hi : Int} (h : 1 ≤ hi) : 1 ≤ lim n hi ∧ lim n hi ≤ hi := by
  unfold lim; split
  · omega
  · split <;> omega
structure L where
  m0 : Int
  m1 : Int
  m2 : Int
def L.at (l : L) (i : Nat) : Int := if i = 0 then l.m0 else if i = 1 then l.m1 else l.m2
def L.Ok (l : L) : Prop := (1 ≤ l.m0 ∧ l.m0 ≤ 65536) ∧ (1 ≤ l.m1 ∧ l.m1 ≤ 65536) ∧ (1 ≤ l.m2 ∧ l.m2 ≤ 65536)
theorem L.at_ok {l : L} (h : l.Ok) (i : Nat) : 1 ≤ l.at i ∧ l.at i ≤ 65536 := by
  obtain ⟨h1, h2, h3⟩ := h
  unfold L.at; split
  · exact h1
  · split
    · exact h2
    · exact h3
def limits (w h m : Int) : L := ⟨lim w 4096, lim h 65536, lim m 65535⟩
theorem limits_ok (w h m : Int) : (limits w h m).Ok := by
  have a := lim_at (n := w) (hi := 4096) (by omega)
  have b := lim_at (n := h) (hi := 65536) (by omega)
  have c := lim_at (n := m) (hi := 65535) (by omega)
  exact ⟨⟨a.1, by simp only [limits]; omega⟩, ⟨b.1, b.2⟩, ⟨c.1, by simp only [limits]; omega⟩⟩
structure S where
  p : Nat
  kd : Int
  i : Nat
  v0 : Int
  v1 : Int
  v2 : Int
  t : Tk.S
  e : Int
structure H where
  kd : Int
  w : Int
  h : Int
  m : Int
def none : H := ⟨0, 0, 0, 0⟩
def new : S := ⟨0, 0, 0, 0, 0, 1, Tk.new, 0⟩
def bits (kd : Int) : Bool := decide (kd = 1 ∨ kd = 4)
def many (kd : Int) : Nat := if bits kd = true then 2 else 3
def S.wrong (s : S) (e : Int) : S := ⟨5, s.kd, s.i, s.v0, s.v1, s.v2, s.t, e⟩
def S.tok (s : S) (t : Tk.S) : S := ⟨3, s.kd, s.i, s.v0, s.v1, s.v2, t, s.e⟩
def S.num (s : S) (n : Int) : S :=
  ⟨if s.i + 1 = many s.kd then 4 else 3, s.kd, s.i + 1, if s.i = 0 then n else s.v0, if s.i = 1 then n else s.v1, if 2 ≤ s.i then n else s.v2, Tk.new, s.e⟩
def take (s : S) (t : Tk.S) : S :=
  if t.k = 5 then s.wrong t.e
  else if t.k = 4 then (if t.n = 0 then s.wrong 4 else s.num t.n)
  else s.tok t
def inNum (l : L) (s : S) (c : Int) : S := take s (Tk.put (l.at s.i) s.t c)
def put (l : L) (s : S) (c : Int) : S :=
  if s.p = 0 then (if c = 80 then ⟨1, s.kd, s.i, s.v0, s.v1, s.v2, s.t, s.e⟩ else s.wrong 2)
  else if s.p = 1 then (if 49 ≤ c ∧ c ≤ 54 then ⟨2, c - 48, s.i, s.v0, s.v1, s.v2, s.t, s.e⟩ else s.wrong 2)
  else if s.p = 2 then (if Tk.blank c = true ∨ c = 35 then inNum l s c else s.wrong 3)
  else if s.p = 3 then inNum l s c
  else s
def st (s : S) : Int := if s.p = 4 then 1 else if s.p = 5 then 2 else 0
def hd (s : S) : H := ⟨s.kd, s.v0, s.v1, s.v2⟩
def val (s : S) : H × Int := if s.p = 4 then (hd s, 0) else if s.p = 5 then (none, s.e) else (none, 9)
def parseF (l : L) : S → Nat → List Int → H × Int × Int
  | s, i, [] => if s.p = 4 then (hd s, (i : Int), 0) else if s.p = 5 then (none, (i : Int), s.e) else (none, (i : Int), 6)
  | s, i, c :: cs => if s.p = 4 then (hd s, (i : Int), 0) else if s.p = 5 then (none, (i : Int), s.e) else parseF l (put l s c) (i + 1) cs
def parseV (l : L) (x : List Int) : H × Int × Int := parseF l new 0 x
theorem parse_over {l : L} {s : S} (i : Nat) (x : List Int) (h : s.p = 4) : parseF l s i x = (hd s, (i : Int), 0) := by cases x <;> rw [parseF, if_pos h]
theorem parse_wrong {l : L} {s : S} (i : Nat) (x : List Int) (h : s.p = 5) : parseF l s i x = (none, (i : Int), s.e) := by cases x <;> rw [parseF, if_neg (by omega), if_pos h]
theorem parse_nil {l : L} {s : S} (i : Nat) (h : s.p ≤ 3) : parseF l s i [] = (none, (i : Int), 6) := by rw [parseF, if_neg (by omega), if_neg (by omega)]
theorem parse_cons {l : L} {s : S} (i : Nat) (c : Int) (cs : List Int) (h : s.p ≤ 3) : parseF l s i (c :: cs) = parseF l (put l s c) (i + 1) cs := by rw [parseF, if_neg (by omega), if_neg (by omega)]
def Good (l : L) (s : S) : Prop :=
  s.p ≤ 5 ∧ (s.p ≤ 3 → Tk.Good (l.at s.i) s.t ∧ s.t.k ≤ 3) ∧ (s.p ≤ 2 → s.i = 0 ∧ s.v0 = 0 ∧ s.v1 = 0 ∧ s.v2 = 1 ∧ s.t = Tk.new) ∧ (s.p ≤ 1 → s.kd = 0) ∧ (2 ≤ s.p → s.p ≤ 4 → 1 ≤ s.kd ∧ s.kd ≤ 6) ∧ (s.p ≤ 3 → s.i < many s.kd) ∧ (s.p = 5 → (s.e = 2 ∨ s.e = 3 ∨ s.e = 4)) ∧ s.i ≤ 3
theorem many_at (kd : Int) : many kd = 2 ∨ many kd = 3 := by unfold many; split <;> simp
theorem good_new {l : L} (h : l.Ok) : Good l new := by
  have := L.at_ok h 0
  refine ⟨by decide, fun _ => ⟨Tk.good_new (by show (0 : Int) ≤ l.at 0; omega), by decide⟩, fun _ => ⟨rfl, rfl, rfl, rfl, rfl⟩, fun _ => rfl, fun h => absurd h (by decide), fun _ => by have := many_at (0 : Int); show 0 < many 0; omega, fun h => absurd h (by decide), by decide⟩
theorem good_wrong {l : L} {s : S} (hi : s.i ≤ 3) {e : Int} (he : e = 2 ∨ e = 3 ∨ e = 4) : Good l (s.wrong e) :=
  ⟨Nat.le_refl 5, fun h => absurd h (by simp [S.wrong]), fun h => absurd h (by simp [S.wrong]), fun h => absurd h (by simp [S.wrong]), fun _ h => absurd h (by simp [S.wrong]), fun h => absurd h (by simp [S.wrong]), fun _ => he, hi⟩
theorem good_take {l : L} (hl : l.Ok) {s : S} (hk : 1 ≤ s.kd ∧ s.kd ≤ 6) (hi : s.i < many s.kd) {t : Tk.S} (ht : Tk.Good (l.at s.i) t) : Good l (take s t) := by
  have hm := many_at s.kd
  unfold take
  split
  · rename_i h5; exact good_wrong (by omega) (.inr (ht.2.2.2.2.2.1 h5))
  split
  · split
    · exact good_wrong (by omega) (.inr (.inr rfl))
    · unfold S.num
      by_cases h : s.i + 1 = many s.kd
      · rw [if_pos h]
        exact ⟨by simp, fun h => absurd h (by simp), fun h => absurd h (by simp), fun h => absurd h (by simp), fun _ _ => hk, fun h => absurd h (by simp), fun h => absurd h (by simp), by simp only []; omega⟩
      · rw [if_neg h]
        have := L.at_ok hl (s.i + 1)
        exact ⟨by simp, fun _ => ⟨Tk.good_new (by simp only []; omega), Nat.zero_le _⟩, fun h => absurd h (by simp), fun h => absurd h (by simp), fun _ _ => hk, fun _ => by simp only []; omega, fun h => absurd h (by simp), by simp only []; omega⟩
  · rename_i h5 h4
    have := ht.1
    exact ⟨by simp [S.tok], fun _ => ⟨ht, by show t.k ≤ 3; omega⟩, fun h => absurd h (by simp [S.tok]), fun h => absurd h (by simp [S.tok]), fun _ _ => hk, fun _ => hi, fun h => absurd h (by simp [S.tok]), by show s.i ≤ 3; omega⟩
theorem good_put {l : L} (hl : l.Ok) {s : S} (h : Good l s) (c : Int) : Good l (put l s c) := by
  obtain ⟨h1, h2, h3, h4, h5, h6, h7, h8⟩ := h
  unfold put
  split
  · rename_i hp
    obtain ⟨a1, a2, a3, a4, a5⟩ := h3 (by omega)
    split
    · exact ⟨by simp, fun _ => h2 (by omega), fun _ => ⟨a1, a2, a3, a4, a5⟩, fun _ => h4 (by omega), fun h => absurd h (by simp), fun _ => h6 (by omega), fun h => absurd h (by simp), h8⟩
    · exact good_wrong h8 (.inl rfl)
  split
  · rename_i hp0 hp
    obtain ⟨a1, a2, a3, a4, a5⟩ := h3 (by omega)
    split
    · rename_i hc
      exact ⟨by simp, fun _ => h2 (by omega), fun _ => ⟨a1, a2, a3, a4, a5⟩, fun h => absurd h (by simp), fun _ _ => by simp only []; omega, fun _ => by have := many_at (c - 48); simp only []; omega, fun h => absurd h (by simp), h8⟩
    · exact good_wrong h8 (.inl rfl)
  split
  · rename_i hp0 hp1 hp
    split
    · exact good_take hl (h5 (by omega) (by omega)) (h6 (by omega)) (Tk.good_put (h2 (by omega)).1 c)
    · exact good_wrong h8 (.inr (.inl rfl))
  split
  · exact good_take hl (h5 (by omega) (by omega)) (h6 (by omega)) (Tk.good_put (h2 (by omega)).1 c)
  · exact ⟨h1, h2, h3, h4, h5, h6, h7, h8⟩
theorem parse_ends {l : L} (hl : l.Ok) : ∀ (x : List Int) (s : S) (i : Nat), Good l s → s.p ≤ 3 → (i : Int) ≤ (parseF l s i x).2.1 ∧ ((parseF l s i x).2.2 ≠ 6 → (i : Int) + 1 ≤ (parseF l s i x).2.1) ∧ ((parseF l s i x).2.2 = 0 ∨ (parseF l s i x).2.2 = 2 ∨ (parseF l s i x).2.2 = 3 ∨ (parseF l s i x).2.2 = 4 ∨ (parseF l s i x).2.2 = 6)
  | [], s, i, h, hp => by rw [parse_nil i hp]; simp
  | c :: cs, s, i, h, hp => by
    rw [parse_cons i c cs hp]
    have hg := good_put hl h c
    by_cases h4 : (put l s c).p = 4
    · rw [parse_over _ _ h4]; simp; omega
    by_cases h5 : (put l s c).p = 5
    · rw [parse_wrong _ _ h5]
      have := hg.2.2.2.2.2.2.1 h5
      simp only []; omega
    · have := hg.1
      have h := parse_ends hl cs (put l s c) (i + 1) hg (by omega)
      omega
end Hd
end Go.Proofs.YtkjkepnailamnaaGreat
namespace Go.Proofs.YtkjkepnailamnaaGreat
open Go.RowKit
set_option linter.unusedVariables false
def agH (h : Hd.H) : Value := .agg #[.int .i64 h.kd, .int .i64 h.w, .int .i64 h.h, .int .i64 h.m]
def Hb (w : World) (b : Nat) (t : TypeId) (h : Hd.H) : Prop := w.heap[b]? = some (.cells #[.int .i64 h.kd, .int .i64 h.w, .int .i64 h.h, .int .i64 h.m] t (0, 0))
section
variable {w w' : World} {b : Nat} {t : TypeId} {h : Hd.H}
theorem Hb.lt (hh : Hb w b t h) : b < w.heap.size := (Array.getElem?_eq_some_iff.1 hh).1
theorem Hb.later (hh : Hb w b t h) (hb : Below w.heap.size w w') : Hb w' b t h := (hb.block b hh.lt).trans hh
theorem Hb.sep {Z : Nat → Prop} (hh : Hb w b t h) (hs : Sep Z w w') (hz : ¬ Z b) : Hb w' b t h := (hs.block b hh.lt hz).trans hh
theorem Hb.kept {row : Option Nat} (hh : Hb w b t h) (hg : w.grownBy w' row) (hne : some b ≠ row) : Hb w' b t h := (hg.block b hh.lt hne).trans hh
theorem Hb.cells (hh : Hb w b t h) : w.cell? ⟨b, 0, none⟩ = some (.int .i64 h.kd) ∧ w.cell? ⟨b, 1, none⟩ = some (.int .i64 h.w) ∧ w.cell? ⟨b, 2, none⟩ = some (.int .i64 h.h) ∧ w.cell? ⟨b, 3, none⟩ = some (.int .i64 h.m) := by
  have h' : w.heap[b]? = _ := hh
  refine ⟨?_, ?_, ?_, ?_⟩ <;> simp [World.cell?, h']
theorem Hb.fr (hh : Hb w b t h) : w.frozen? ⟨b, 0, none⟩ = false ∧ w.frozen? ⟨b, 1, none⟩ = false ∧ w.frozen? ⟨b, 2, none⟩ = false ∧ w.frozen? ⟨b, 3, none⟩ = false := by
  have h' : w.heap[b]? = _ := hh
  refine ⟨?_, ?_, ?_, ?_⟩ <;> simp [World.frozen?, h']
theorem Hb.new (w : World) (t : TypeId) (h : Hd.H) : Hb (w.alloc (.cells #[.int .i64 h.kd, .int .i64 h.w, .int .i64 h.h, .int .i64 h.m] t)) w.heap.size t h := World.alloc_heap_new w _
theorem Hb.alloc (hh : Hb w b t h) (o : Obj) : Hb (w.alloc o) b t h := hh.kept (World.grownBy_alloc w o none) (by simp)
theorem Hb.drew (hh : Hb w b t h) : Hb w.drew b t h := hh
theorem Hb.put (hh : Hb w b t h) (k : Hd.H) : Hb ((((w.setCell ⟨b, 0, none⟩ (.int .i64 k.kd)).setCell ⟨b, 1, none⟩ (.int .i64 k.w)).setCell ⟨b, 2, none⟩ (.int .i64 k.h)).setCell ⟨b, 3, none⟩ (.int .i64 k.m)) b t k := by
  have h' : w.heap[b]? = _ := hh
  have h1 := Go.heap_setCell_same w b 0 _ _ (.int .i64 k.kd) h'
  have h2 := Go.heap_setCell_same _ b 1 _ _ (.int .i64 k.w) h1
  have h3 := Go.heap_setCell_same _ b 2 _ _ (.int .i64 k.h) h2
  have h4 := Go.heap_setCell_same _ b 3 _ _ (.int .i64 k.m) h3
  simpa [Hb] using h4
end
theorem load_hd {w : World} {b : Nat} {t : TypeId} {h : Hd.H} (hh : Hb w b t h) : (loadVar 62 ⟨b, 0, none⟩).run Tryz.prog w = .ok (agH h) w := by
  obtain ⟨h0, h1, h2, h3⟩ := hh.cells
  simp [go_sem, h0, h1, h2, h3, agH]
theorem load_rh {w : World} {b : Nat} {t : TypeId} {h : Hd.H} (hh : Hb w b t h) : (loadVar 112 ⟨b, 0, none⟩).run Tryz.prog w = .ok (agH h) w := by
  obtain ⟨h0, h1, h2, h3⟩ := hh.cells
  simp [go_sem, h0, h1, h2, h3, agH]
theorem Hj.ret3 {P : Program} {fn : Func} {p u v : Tmp} {ty : TypeId} (h : fn.results = #[.cell p ty, .tmp u, .tmp v]) (tmps : Array Value) (w : World) (b : Nat) (val : Value) (hp : tmps.getD p undef = .pointer (some ⟨b, 0, none⟩)) (hl : (loadVar ty ⟨b, 0, none⟩).run P w = .ok val w) :
    (results fn tmps).run P w = .ok (.tuple #[val, tmps.getD u undef, tmps.getD v undef]) w := by
  have hp' : tmps[p]?.getD undef = .pointer (some ⟨b, 0, none⟩) := by simpa using hp
  simp only [results, h]
  simp [hp', asAddr, hl, Result.andThen]
theorem Hj.ret1 {P : Program} {fn : Func} {p : Tmp} {ty : TypeId} (h : fn.results = #[.cell p ty]) (tmps : Array Value) (w : World) (b : Nat) (val : Value) (hp : tmps.getD p undef = .pointer (some ⟨b, 0, none⟩)) (hl : (loadVar ty ⟨b, 0, none⟩).run P w = .ok val w) :
    (results fn tmps).run P w = .ok val w := by
  have hp' : tmps[p]?.getD undef = .pointer (some ⟨b, 0, none⟩) := by simpa using hp
  simp only [results, h]
  simp [hp', asAddr, hl]
end Go.Proofs.YtkjkepnailamnaaGreat
namespace Go.Proofs.YtkjkepnailamnaaGreat
open Go.RowKit
set_option linter.unusedVariables false
def Hj.same4 (a b c d x y z u : Int) : Bool := ((a == x) && (b == y)) && (c == z) && (d == u)
def Hj.same2 (a b x y : Int) : Bool := (a == x) && (b == y)
theorem Hj.same2_self (a b : Int) : Hj.same2 a b a b = true := by simp [Hj.same2]
theorem heq_run (a b c d x y z u : Int) (w : World) : (binOp .eql 62 (.agg #[.int .i64 a, .int .i64 b, .int .i64 c, .int .i64 d]) (.agg #[.int .i64 x, .int .i64 y, .int .i64 z, .int .i64 u])).run Tryz.prog w = .ok (.bool (Hj.same4 a b c d x y z u)) w := by
  rw [run_eql_struct]
  unfold Hj.same4
  cases h1 : (a == x) <;> cases h2 : (b == y) <;> cases h3 : (c == z) <;> cases h4 : (d == u) <;> simp [go_sem, h1, h2, h3, h4]
theorem feq_run (a b x y : Int) (w : World) : (binOp .eql 29 (.agg #[.int .i64 a, .int .i64 b]) (.agg #[.int .i64 x, .int .i64 y])).run Tryz.prog w = .ok (.bool (Hj.same2 a b x y)) w := by
  rw [run_eql_struct]
  unfold Hj.same2
  cases h1 : (a == x) <;> cases h2 : (b == y) <;> simp [go_sem, h1, h2]
theorem heq_guard (a b : Operand) (xs ys : Array Value) (w : World) : (eqGuard .eql 62 a b (.agg xs) (.agg ys)).run Tryz.prog w = .ok () w := run_eqGuard_agg _ _ _ _ _ _ _ (by kernel_rfl)
theorem feq_guard (a b : Operand) (xs ys : Array Value) (w : World) : (eqGuard .eql 29 a b (.agg xs) (.agg ys)).run Tryz.prog w = .ok () w := run_eqGuard_agg _ _ _ _ _ _ _ (by kernel_rfl)
end Go.Proofs.YtkjkepnailamnaaGreat
namespace Go.Proofs.YtkjkepnailamnaaGreat
open Go.RowKit
set_option linter.unusedVariables false
theorem strOfNums_append (xs ys : List Int) : strOfNums (xs ++ ys) = strOfNums xs ++ strOfNums ys := by
  apply ByteArray.ext
  simp [strOfNums]
def Nu.backV (n : Int) : List Int := (Nu.dig 10 n.natAbs).map (48 + ·) ++ (if n < 0 then [45] else [])
def Nu.decV (n : Int) : List Int := (Nu.backV n).reverse
theorem Nu.decV_pos {n : Int} (h0 : 0 ≤ n) (h : n < 10) : Nu.decV n = [48 + n] := by
  unfold Nu.decV Nu.backV
  rw [Nu.dig_last (by omega), if_neg (by omega), show (n.natAbs : Int) % 10 = n by omega]; rfl
theorem Nu.decV_neg {n : Int} (h0 : n < 0) (h : -10 < n) : Nu.decV n = [45] ++ [48 + -n] := by
  unfold Nu.decV Nu.backV
  rw [Nu.dig_last (by omega), if_pos h0, show (n.natAbs : Int) % 10 = -n by omega]; rfl
theorem Nu.decV_more {n q r : Int} (h : 10 ≤ n.natAbs) (hq : (q.natAbs : Int) = n.natAbs / 10) (hs : q < 0 ↔ n < 0) (hr : (n.natAbs : Int) % 10 = r) : Nu.decV n = Nu.decV q ++ [48 + r] := by
  unfold Nu.decV Nu.backV
  rw [Nu.dig_more (by omega) (show (10 : Int) ≤ n.natAbs by omega), ← hq, hr]
  by_cases h0 : n < 0
  · rw [if_pos h0, if_pos (hs.2 h0)]; simp
  · rw [if_neg h0, if_neg (fun e => h0 (hs.1 e))]; simp
theorem Nu.conv_one (W : World) (x : Int) : (convert 22 9 (.slice (some ⟨W.heap.size, 0, none⟩) 1 1)).run Tryz.prog (W.alloc (.cells #[.int .u8 x] 5)) = .ok (.string (strOfNums [x])) (W.alloc (.cells #[.int .u8 x] 5)) :=
  run_convert_bytes_arg (P := Tryz.prog) _ 22 5 Tryz.underlying22 Tryz.underlying5 W.heap.size 0 1 1 [x] rfl (by
    intro i hi
    obtain rfl : i = 0 := by omega
    simp [go_sem]) 9 Tryz.underlying9
theorem ret_s {a b : ByteArray} (h : a = b) : Ending.returned (.string a) = .returned (.string b) := by rw [h]
theorem Nu.decV_len {n : Int} (hn : Nu.I n) : (Nu.decV n).length ≤ 66 := by
  have := Nu.dig_len64 (b := 10) (n := n.natAbs) (by omega) (by unfold Nu.I at hn; omega)
  unfold Nu.decV Nu.backV
  split <;> simp <;> omega
set_option maxRecDepth 100000 in
set_option maxHeartbeats 2000000 in
theorem refDecimal_go (k : Nat) : ∀ (n : Int), n.natAbs ≤ k → Nu.I n → ∀ w : World,
    Calls Tryz.prog 89 #[.int .i64 n] w fun e w' => e = .returned (.string (strOfNums (Nu.decV n))) ∧ Below w.heap.size w w' := by
  induction k using Nat.strongRecOn with
  | ind k ih =>
  intro n hk hn w
  have hI := hn
  obtain ⟨n1, n2⟩ := hn
  have hc := fun x => Nu.conv_one w x
  by_cases h0 : n < 0
  · by_cases hb : -10 < n
    · have X := Lib.hid (Nu.decV_neg h0 hb)
      have hm : n.tmod 10 = n := by
        have : (-n).tmod 10 = (-n) % 10 := Int.tmod_eq_emod_of_nonneg (by omega)
        rw [Int.neg_tmod] at this; omega
      have hcx := hc (48 + -n)
      have hL : (⟨#[45]⟩ : ByteArray).size + (strOfNums [48 + -n]).size ≤ 9223372036854775807 := by rw [strOfNums_size]; simp [ByteArray.size]
      clear hc ih
      go_enter Tryz.func89, Tryz.ntmps89
      go_wp2
      go_ret
      exact ⟨ret_s (by rw [X.out, strOfNums_append]; rfl), (Below.refl _ _).alloc (Nat.le_refl _) _⟩
    · obtain ⟨r, hr⟩ : ∃ r, (-n) % 10 = r := ⟨_, rfl⟩
      obtain ⟨q, hq⟩ : ∃ q, -((-n) / 10) = q := ⟨_, rfl⟩
      have hm : n.tmod 10 = -r := by
        have : (-n).tmod 10 = (-n) % 10 := Int.tmod_eq_emod_of_nonneg (by omega)
        rw [Int.neg_tmod] at this; omega
      have hd : n.tdiv 10 = q := by
        have : (-n).tdiv 10 = (-n) / 10 := Int.tdiv_eq_ediv_of_nonneg (by omega)
        rw [Int.neg_tdiv] at this; omega
      have X := Lib.hid (Nu.decV_more (n := n) (q := q) (r := r) (by omega) (by omega) (by omega) (by omega))
      have r0 : 0 ≤ r := by omega
      have r1 : r < 10 := by omega
      have q0 : -9223372036854775808 ≤ q := by omega
      have q1 : q < 0 := by omega
      have hL : (strOfNums (Nu.decV q)).size + (strOfNums [48 + r]).size ≤ 9223372036854775807 := by
        have := Nu.decV_len (n := q) (by unfold Nu.I; omega)
        rw [strOfNums_size, strOfNums_size]; simp; omega
      have hcx := hc (48 + r)
      have hrec := Lib.hid (ih q.natAbs (by omega) q (Nat.le_refl _) (by unfold Nu.I; omega))
      have hc48 := hc 48
      clear hc ih hq hr
      by_cases hz : r = 0
      · subst hz
        have hm' : n.tmod 10 = 0 := by omega
        have hL' : (strOfNums (Nu.decV q)).size + (strOfNums [48]).size ≤ 9223372036854775807 := hL
        clear hm hcx hL
        go_enter Tryz.func89, Tryz.ntmps89
        go_wp2_with (go_at_call 89; refine (hrec.out _).mono ?_; rintro e w1 ⟨rfl, hb1⟩)
        go_ret
        exact ⟨ret_s (by rw [X.out, strOfNums_append]; rfl), ((Below.refl _ _).alloc (Nat.le_refl _) _).trans (hb1.mono (by simp))⟩
      · have rp : 0 < r := by omega
        clear hz
        go_enter Tryz.func89, Tryz.ntmps89
        go_wp2_with (go_at_call 89; refine (hrec.out _).mono ?_; rintro e w1 ⟨rfl, hb1⟩)
        go_ret
        exact ⟨ret_s (by rw [X.out, strOfNums_append]), ((Below.refl _ _).alloc (Nat.le_refl _) _).trans (hb1.mono (by simp))⟩
  · have hm : n.tmod 10 = n % 10 := Int.tmod_eq_emod_of_nonneg (by omega)
    have r0 : 0 ≤ n % 10 := by omega
    have r1 : n % 10 < 10 := by omega
    have p0 : 0 ≤ n := by omega
    by_cases hb : n < 10
    · have X := Lib.hid (show Nu.decV n = [48 + n % 10] by rw [Nu.decV_pos p0 hb, show n % 10 = n by omega])
      have hcx := hc (48 + n % 10)
      clear hc hm
      go_enter Tryz.func89, Tryz.ntmps89
      go_wp2
      go_ret
      exact ⟨ret_s (by rw [X.out]), (Below.refl _ _).alloc (Nat.le_refl _) _⟩
    · have X := Lib.hid (Nu.decV_more (n := n) (q := n / 10) (r := n % 10) (by omega) (by omega) (by omega) (by omega))
      have hL : (strOfNums (Nu.decV (n / 10))).size + (strOfNums [48 + n % 10]).size ≤ 9223372036854775807 := by
        have := Nu.decV_len (n := n / 10) (by unfold Nu.I; omega)
        rw [strOfNums_size, strOfNums_size]; simp; omega
      have hcx := hc (48 + n % 10)
      have hrec := Lib.hid (ih (n / 10).natAbs (by omega) (n / 10) (Nat.le_refl _) (by unfold Nu.I; omega))
      clear hc hm ih
      go_enter Tryz.func89, Tryz.ntmps89
      go_wp2_with (go_at_call 89; refine (hrec.out _).mono ?_; rintro e w1 ⟨rfl, hb1⟩)
      go_ret
      exact ⟨ret_s (by rw [X.out, strOfNums_append]), ((Below.refl _ _).alloc (Nat.le_refl _) _).trans (hb1.mono (by simp))⟩
theorem refDecimal_any (n : Int) (hn : Nu.I n) (w : World) :
    Calls Tryz.prog 89 #[.int .i64 n] w fun e w' => e = .returned (.string (strOfNums (Nu.decV n))) ∧ Below w.heap.size w w' :=
  refDecimal_go _ n (Nat.le_refl _) hn w
end Go.Proofs.YtkjkepnailamnaaGreat
namespace Go.Proofs.YtkjkepnailamnaaGreat
open Go.RowKit
set_option linter.unusedVariables false
theorem bytesOf_strOfNums {xs : List Int} (h : ∀ x ∈ xs, 0 ≤ x ∧ x ≤ 255) : bytesOf (strOfNums xs) = xs := by
  unfold bytesOf strOfNums
  simp only [List.map_map]
  conv => rhs; rw [← List.map_id xs]
  refine List.map_congr_left fun x hx => ?_
  obtain ⟨h0, h1⟩ := h x hx
  simp; omega
theorem bytesOf_append (a b : ByteArray) : bytesOf (a ++ b) = bytesOf a ++ bytesOf b := by simp [bytesOf]
theorem Nu.parseF_append (most : Int) : ∀ (xs ys : List Int) (n : Int), Nu.parseF most n (xs ++ ys) = if (Nu.parseF most n xs).2 = 0 then Nu.parseF most (Nu.parseF most n xs).1 ys else (0, (Nu.parseF most n xs).2)
  | [], ys, n => by simp [Nu.parseF]
  | c :: cs, ys, n => by
    rw [List.cons_append, Nu.parseF, Nu.parseF]
    by_cases h : (Nu.stepV n c most).2 = 0
    · rw [if_pos h, if_pos h]; exact Nu.parseF_append most cs ys _
    · rw [if_neg h, if_neg h, if_neg h]
theorem Nu.parse_dig (most : Int) (m0 : 0 ≤ most) (k : Int) (h0 : 0 ≤ k) : Nu.parseF most 0 (((Nu.dig 10 k).map (48 + ·)).reverse) = if k ≤ most then (k, 0) else (0, 4) := by
  induction k using Nu.dig.induct (b := 10) with
  | case1 k h ih =>
    have hq := ih (by omega)
    rw [Nu.dig_more h.1 h.2, List.map_cons, List.reverse_cons, Nu.parseF_append, hq]
    by_cases hk : k / 10 ≤ most
    · rw [if_pos hk, if_pos rfl, Nu.parseF]
      have hs : Nu.stepV (k / 10) (48 + k % 10) most = if k ≤ most then (k, 0) else (0, 4) := by
        unfold Nu.stepV
        rw [if_neg (by omega)]
        by_cases hm : k ≤ most
        · rw [if_neg (by omega), if_pos hm]; refine Prod.ext ?_ rfl; simp only []; omega
        · rw [if_pos (by omega), if_neg hm]
      rw [hs]
      by_cases hm : k ≤ most
      · rw [if_pos hm, if_pos rfl]; rfl
      · rw [if_neg hm, if_neg (by simp)]
    · rw [if_neg hk, if_neg (by simp), if_neg (by omega)]
  | case2 k h =>
    rw [Nu.dig_last (by omega)]
    have hk : k % 10 = k := by omega
    rw [hk]
    show Nu.parseF most 0 [48 + k] = _
    rw [Nu.parseF]
    have hs : Nu.stepV 0 (48 + k) most = if k ≤ most then (k, 0) else (0, 4) := by
      unfold Nu.stepV
      rw [if_neg (by omega)]
      by_cases hm : k ≤ most
      · rw [if_neg (by omega), if_pos hm]; refine Prod.ext ?_ rfl; simp only []; omega
      · rw [if_pos (by omega), if_neg hm]
    rw [hs]
    by_cases hm : k ≤ most
    · rw [if_pos hm, if_pos rfl]; rfl
    · rw [if_neg hm, if_neg (by simp)]
theorem Nu.decV_up {k : Int} (h : 0 ≤ k) : Nu.decV k = ((Nu.dig 10 k).map (48 + ·)).reverse := by
  unfold Nu.decV Nu.backV
  rw [if_neg (by omega), List.append_nil, show (k.natAbs : Int) = k by omega]
theorem Nu.decV_bytes (k : Int) : ∀ x ∈ Nu.decV k, 0 ≤ x ∧ x ≤ 255 := by
  intro x hx
  unfold Nu.decV Nu.backV at hx
  rw [List.mem_reverse, List.mem_append] at hx
  rcases hx with hx | hx
  · obtain ⟨d, hd, rfl⟩ := List.mem_map.1 hx
    have := Nu.dig_lt (b := 10) (by omega) _ d hd
    omega
  · split at hx
    · obtain rfl : x = 45 := by simpa using hx
      omega
    · cases hx
theorem Nu.decV_ne {k : Int} (h : 0 ≤ k) : Nu.decV k ≠ [] := by
  rw [Nu.decV_up h]; simp [Nu.dig_ne]
end Go.Proofs.YtkjkepnailamnaaGreat
namespace Go.Proofs.YtkjkepnailamnaaGreat
open Go.RowKit
set_option linter.unusedVariables false
namespace Tk
def runs (m : Int) : S → List Int → S → Prop
  | s, [], t => s = t
  | s, c :: cs, t => (put m s c).k ≤ 3 ∧ runs m (put m s c) cs t
def digs (m : Int) : S → List Int → S → Prop
  | s, [], t => s = t
  | s, c :: cs, t => (put m s c).k = 2 ∧ digs m (put m s c) cs t
theorem digs_runs {m : Int} : ∀ (l : List Int) {s t : S}, digs m s l t → runs m s l t
  | [], s, t, h => h
  | c :: cs, s, t, h => ⟨by have := h.1; omega, digs_runs cs h.2⟩
theorem step_digit {n c m : Int} (h : (Nu.stepV n c m).2 = 0) : 48 ≤ c ∧ c ≤ 57 := by
  unfold Nu.stepV at h
  split at h
  · simp at h
  · rename_i h1; omega
theorem put_digit {m : Int} {s : S} {c : Int} (hk : s.k = 0 ∨ s.k = 2) (he : s.e = 9) (h : (Nu.stepV s.n c m).2 = 0) : put m s c = ⟨2, (Nu.stepV s.n c m).1, 9, true⟩ := by
  obtain ⟨h1, h2⟩ := step_digit h
  have hb : ¬ blank c = true := by unfold blank; simp; omega
  unfold put
  rw [if_neg (by omega), if_neg (by omega), if_neg (by omega), if_neg (by omega), if_neg hb, if_pos h, he]
theorem digs_parse {m v : Int} : ∀ (l : List Int) (s : S), (s.k = 0 ∨ s.k = 2) → s.e = 9 → (l = [] → s = ⟨2, v, 9, true⟩) → Nu.parseF m s.n l = (v, 0) → digs m s l ⟨2, v, 9, true⟩
  | [], s, hk, he, h0, h => h0 rfl
  | c :: cs, s, hk, he, h0, h => by
    rw [Nu.parseF] at h
    by_cases hs : (Nu.stepV s.n c m).2 = 0
    · rw [if_pos hs] at h
      have hp := put_digit hk he hs
      refine ⟨by rw [hp], ?_⟩
      rw [hp]
      refine digs_parse cs _ (.inr rfl) rfl (fun e => ?_) h
      subst e
      simp only [Nu.parseF] at h
      have := (Prod.mk.inj h).1
      rw [this]
    · rw [if_neg hs] at h
      have h2 := (Prod.mk.inj h).2
      exact absurd h2 hs
theorem digs_dec {m k : Int} (h0 : 0 ≤ k) (h1 : k ≤ m) : digs m new (Nu.decV k) ⟨2, k, 9, true⟩ := by
  refine digs_parse _ _ (.inl rfl) rfl (fun e => absurd e (Nu.decV_ne h0)) ?_
  show Nu.parseF m 0 _ = _
  rw [Nu.decV_up h0, Nu.parse_dig m (by omega) k h0, if_pos h1]
theorem blank_35 {c : Int} (h : blank c = true) : ¬ c = 35 := by unfold blank at h; simp at h; omega
theorem put_end {m k c : Int} (h : blank c = true) : put m ⟨2, k, 9, true⟩ c = ⟨4, k, 0, true⟩ := by simp [put, blank_35 h, h]
theorem put_ahead {m c : Int} (h : blank c = true) : put m new c = new := by
  have := blank_35 h
  simp [put, new, this, h]
end Tk
end Go.Proofs.YtkjkepnailamnaaGreat
namespace Go.Proofs.YtkjkepnailamnaaGreat
open Go.RowKit
set_option linter.unusedVariables false
namespace Hd
theorem take_more {s : S} {t : Tk.S} (h : t.k ≤ 3) : take s t = s.tok t := by unfold take; rw [if_neg (by omega), if_neg (by omega)]
theorem take_over {s : S} {k : Int} (h : k ≠ 0) {b : Bool} {e : Int} : take s ⟨4, k, e, b⟩ = s.num k := by
  unfold take; rw [if_neg (by simp), if_pos rfl, if_neg h]
theorem take_wrong {s : S} {t : Tk.S} (h : t.k = 5) : take s t = s.wrong t.e := by unfold take; rw [if_pos h]
theorem put_in {l : L} {s : S} {c : Int} (h : s.p = 3) : put l s c = take s (Tk.put (l.at s.i) s.t c) := by
  unfold put; rw [if_neg (by omega), if_neg (by omega), if_neg (by omega), if_pos h]; rfl
theorem tok_tok (s : S) (t u : Tk.S) : (s.tok t).tok u = s.tok u := rfl
theorem tok_self {s : S} (h : s.p = 3) : s.tok s.t = s := by
  obtain ⟨p, kd, i, v0, v1, v2, t, e⟩ := s
  have : p = 3 := h
  subst this; rfl
theorem parse_runs {l : L} : ∀ (x : List Int) (s : S) (i : Nat) (r : List Int) {t : Tk.S}, s.p = 3 → Tk.runs (l.at s.i) s.t x t → parseF l s i (x ++ r) = parseF l (s.tok t) (i + x.length) r
  | [], s, i, r, t, hp, h => by
    have h' : s.t = t := h
    rw [← h', tok_self hp]; rfl
  | c :: cs, s, i, r, t, hp, h => by
    have h1 := h.1
    rw [List.cons_append, parse_cons i c _ (by omega), put_in hp, take_more h1]
    have := parse_runs (l := l) cs (s.tok (Tk.put (l.at s.i) s.t c)) (i + 1) r (t := t) rfl h.2
    rw [this, tok_tok, List.length_cons, show i + 1 + cs.length = i + (cs.length + 1) by omega]
theorem parse_third {l : L} {s : S} (hp : s.p = 2) (i : Nat) {c : Int} (hc : Tk.blank c = true ∨ c = 35) (cs : List Int) : parseF l s i (c :: cs) = parseF l (s.tok s.t) i (c :: cs) := by
  rw [parse_cons i c cs (by omega), parse_cons i c cs (by show (3 : Nat) ≤ 3; omega), put_in (s := s.tok s.t) rfl]
  congr 1
  unfold put
  rw [if_neg (by omega), if_neg (by omega), if_pos hp, if_pos hc]
  unfold inNum take
  rfl
theorem parse_ends_num {l : L} {s : S} {k : Int} (h : k ≠ 0) (i : Nat) {c : Int} (hc : Tk.blank c = true) (cs : List Int) : parseF l (s.tok ⟨2, k, 9, true⟩) i (c :: cs) = parseF l (s.num k) (i + 1) cs := by
  rw [parse_cons i c cs (by show (3 : Nat) ≤ 3; omega), put_in rfl]
  congr 1
  show take (s.tok _) (Tk.put (l.at s.i) ⟨2, k, 9, true⟩ c) = _
  rw [Tk.put_end hc, take_over h]; rfl
theorem parse_num {l : L} {s : S} (hp : s.p = 3) (ht : s.t = Tk.new) {k : Int} (h0 : 1 ≤ k) (h1 : k ≤ l.at s.i) (i : Nat) {c : Int} (hc : Tk.blank c = true) (r : List Int) :
    parseF l s i (Nu.decV k ++ (c :: r)) = parseF l (s.num k) (i + (Nu.decV k).length + 1) r := by
  rw [parse_runs _ s i _ hp (by rw [ht]; exact Tk.digs_runs _ (Tk.digs_dec (by omega) h1)), parse_ends_num (by omega) _ hc]
def May (h : H) : Prop := (1 ≤ h.kd ∧ h.kd ≤ 6) ∧ (1 ≤ h.w ∧ h.w ≤ 4096) ∧ (1 ≤ h.h ∧ h.h ≤ 65536) ∧ (1 ≤ h.m ∧ h.m ≤ 65535) ∧ (bits h.kd = true → h.m = 1)
instance (h : H) : Decidable (May h) := by unfold May; infer_instance
def bytes (h : H) : List Int := [80] ++ Nu.decV h.kd ++ [10] ++ Nu.decV h.w ++ [32] ++ Nu.decV h.h ++ [10] ++ (if bits h.kd = true then [] else Nu.decV h.m ++ [10])
def s2 (kd : Int) : S := ⟨2, kd, 0, 0, 0, 1, Tk.new, 0⟩
def s3 (kd : Int) : S := ⟨3, kd, 0, 0, 0, 1, Tk.new, 0⟩
theorem parse_kind {l : L} {kd : Int} (h1 : 1 ≤ kd) (h6 : kd ≤ 6) (r : List Int) : parseF l new 0 (80 :: (Nu.decV kd ++ r)) = parseF l (s2 kd) 2 r := by
  rw [Nu.decV_pos (by omega) (by omega), parse_cons _ _ _ (by decide), List.singleton_append]
  have e1 : put l new 80 = ⟨1, 0, 0, 0, 0, 1, Tk.new, 0⟩ := rfl
  rw [e1, parse_cons _ _ _ (by decide)]
  congr 1
  unfold put
  rw [if_neg (by simp), if_pos rfl, if_pos (by omega), show 48 + kd - 48 = kd by omega]
  rfl
theorem num_over {s : S} {k : Int} (h : s.i + 1 = many s.kd) : (s.num k).p = 4 := by unfold S.num; rw [if_pos h]
theorem num_more {s : S} {k : Int} (h : s.i + 1 ≠ many s.kd) : (s.num k).p = 3 := by unfold S.num; rw [if_neg h]
theorem runs_blank {m c : Int} (h : Tk.blank c = true) : Tk.runs m Tk.new [c] Tk.new := by
  refine ⟨by rw [Tk.put_ahead h]; decide, ?_⟩
  rw [Tk.put_ahead h]; rfl
theorem s3_tok (kd : Int) : (s2 kd).tok (s2 kd).t = s3 kd := rfl
theorem many_bits {kd : Int} (h : bits kd = true) : many kd = 2 := by unfold many; rw [if_pos h]
theorem many_more {kd : Int} (h : bits kd ≠ true) : many kd = 3 := by unfold many; rw [if_neg h]
theorem parse_bytes {l : L} {h : H} (hm : May h) (hw : h.w ≤ l.m0) (hh : h.h ≤ l.m1) (hx : bits h.kd = true ∨ h.m ≤ l.m2) (r : List Int) : parseV l (bytes h ++ r) = (h, ((bytes h).length : Int), 0) := by
  obtain ⟨kd, w, hh', m⟩ := h
  obtain ⟨⟨a1, a2⟩, ⟨b1, b2⟩, ⟨c1, c2⟩, ⟨d1, d2⟩, e1⟩ := hm
  simp only at a1 a2 b1 b2 c1 c2 d1 d2 e1 hw hh hx
  have bl10 : Tk.blank 10 = true := by decide
  have bl32 : Tk.blank 32 = true := by decide
  unfold parseV bytes
  simp only [List.append_assoc, List.cons_append, List.nil_append]
  rw [parse_kind a1 a2, parse_third rfl _ (.inl bl10), s3_tok]
  have r1 := parse_runs (l := l) [10] (s3 kd) 2 (Nu.decV w ++ (32 :: (Nu.decV hh' ++ (10 :: ((if bits kd = true then [] else Nu.decV m ++ [10]) ++ r))))) rfl (runs_blank bl10)
  rw [List.singleton_append] at r1
  rw [r1, show (s3 kd).tok Tk.new = s3 kd from rfl, parse_num (s := s3 kd) rfl rfl b1 hw _ bl32]
  have p1 : ((s3 kd).num w).p = 3 := num_more (by have := many_at kd; show 0 + 1 ≠ many kd; omega)
  have i1 : ((s3 kd).num w).i = 1 := rfl
  rw [parse_num (s := (s3 kd).num w) p1 rfl c1 (by rw [i1]; exact hh) _ bl10]
  by_cases hb : bits kd = true
  · rw [if_pos hb, parse_over _ _ (num_over (by rw [i1]; show 1 + 1 = many kd; rw [many_bits hb]))]
    obtain rfl : m = 1 := e1 hb
    refine Prod.ext rfl (Prod.ext ?_ rfl)
    rw [Nu.decV_pos (n := kd) (by omega) (by omega)]
    simp only [List.length_append, List.length_cons, List.length_nil]
    omega
  · rw [if_neg hb]
    have p2 : (((s3 kd).num w).num hh').p = 3 := num_more (by rw [i1]; show 1 + 1 ≠ many kd; rw [many_more hb]; decide)
    have i2 : (((s3 kd).num w).num hh').i = 2 := rfl
    rw [List.append_assoc, List.singleton_append, parse_num (s := ((s3 kd).num w).num hh') p2 rfl d1 (by rw [i2]; exact hx.resolve_left hb) _ bl10, parse_over _ _ (num_over (by rw [i2]; show 2 + 1 = many kd; rw [many_more hb]))]
    refine Prod.ext rfl (Prod.ext ?_ rfl)
    rw [Nu.decV_pos (n := kd) (by omega) (by omega)]
    simp only [List.length_append, List.length_cons, List.length_nil]
    omega
end Hd
end Go.Proofs.YtkjkepnailamnaaGreat
namespace Go.Proofs.YtkjkepnailamnaaGreat
open Go.RowKit
set_option linter.unusedVariables false
namespace Hj
def gdk (k : Int) : Int := 1 + Ar.around k 6
def good (h : Hd.H) : Hd.H := ⟨gdk h.kd, 1 + Ar.around h.w 4096, 1 + Ar.around h.h 4096, if Hd.bits (gdk h.kd) = true then 1 else 1 + Ar.around h.m 65535⟩
def Fit (h : Hd.H) : Prop := Nu.I h.kd ∧ Nu.I h.w ∧ Nu.I h.h ∧ Nu.I h.m
def chan (h : Hd.H) : Int := if h.kd = 3 ∨ h.kd = 6 then 3 else 1
def size (h : Hd.H) : Int := if h.kd < 4 then 0 else if h.kd = 4 then h.h * ((h.w + 7) / 8) else h.w * h.h * chan h * (if 255 < h.m then 2 else 1)
end Hj
theorem grown_setCell (W : World) (b o : Nat) (v : Value) : W.grownBy (W.setCell ⟨b, o, none⟩ v) (some b) :=
  ⟨rfl, rfl, rfl, by simp, fun k hk hn => Below.heap_setCell W _ v k (by intro e; exact hn (by rw [e]))⟩
set_option maxHeartbeats 1000000 in
theorem hall_any (w : World) : Calls Tryz.prog 17 #[] w fun e w' => e = .returned (.agg #[.int .i64 4096, .int .i64 65536, .int .i64 65535]) ∧ Below w.heap.size w w' := by
  go_enter Tryz.func17, Tryz.ntmps17
  go_wp2
  go_returns
  exact ⟨rfl, by go_grown⟩
set_option maxHeartbeats 1000000 in
theorem bits_any (k : Int) (w : World) :
    Calls Tryz.prog 90 #[.int .i64 k] w fun e w' => e = .returned (.bool (Hd.bits k)) ∧ w = w' := by
  have rb : ∀ {a b : Bool}, a = b → Ending.returned (.bool a) = .returned (.bool b) := fun h => by rw [h]
  by_cases h1 : k = 1
  · subst h1
    have X := Lib.hid (show Hd.bits 1 = true by decide)
    go_enter Tryz.func90, Tryz.ntmps90
    go_wp2
    go_ret
    exact ⟨rb X.out.symm, rfl⟩
  by_cases h4 : k = 4
  · subst h4
    have X := Lib.hid (show Hd.bits 4 = true by decide)
    go_enter Tryz.func90, Tryz.ntmps90
    go_wp2
    go_ret
    exact ⟨rb X.out.symm, rfl⟩
  · have X := Lib.hid (show Hd.bits k = false by unfold Hd.bits; exact decide_eq_false (by omega))
    have k1 : (k == 1) = false := by simpa using h1
    have k4 : (k == 4) = false := by simpa using h4
    go_enter Tryz.func90, Tryz.ntmps90
    go_wp2
    go_ret
    exact ⟨rb X.out.symm, rfl⟩
end Go.Proofs.YtkjkepnailamnaaGreat
namespace Go.Proofs.YtkjkepnailamnaaGreat
open Go.RowKit
set_option linter.unusedVariables false
def RdC (w : World) (b : Nat) (m v : Int) (g : Bool) (t f : Int) (x : Value) : Prop :=
  w.heap[b]? = some (.cells #[.int .i64 m, .int .i64 v, .bool g, .int .i64 t, .int .i64 f, x] 289 (0, 0))
section
variable {w w' : World} {b : Nat} {m v : Int} {g : Bool} {t f : Int} {x : Value}
theorem RdC.lt (h : RdC w b m v g t f x) : b < w.heap.size := (Array.getElem?_eq_some_iff.1 h).1
theorem RdC.later (h : RdC w b m v g t f x) (hb : Below w.heap.size w w') : RdC w' b m v g t f x := (hb.block b h.lt).trans h
theorem RdC.kept {row : Option Nat} (h : RdC w b m v g t f x) (hg : w.grownBy w' row) (hne : some b ≠ row) : RdC w' b m v g t f x := (hg.block b h.lt hne).trans h
theorem RdC.c0 (h : RdC w b m v g t f x) : w.cell? ⟨b, 0, none⟩ = some (.int .i64 m) := by have h' : w.heap[b]? = _ := h; simp [World.cell?, h']
theorem RdC.c1 (h : RdC w b m v g t f x) : w.cell? ⟨b, 1, none⟩ = some (.int .i64 v) := by have h' : w.heap[b]? = _ := h; simp [World.cell?, h']
theorem RdC.c2 (h : RdC w b m v g t f x) : w.cell? ⟨b, 2, none⟩ = some (.bool g) := by have h' : w.heap[b]? = _ := h; simp [World.cell?, h']
theorem RdC.c3 (h : RdC w b m v g t f x) : w.cell? ⟨b, 3, none⟩ = some (.int .i64 t) := by have h' : w.heap[b]? = _ := h; simp [World.cell?, h']
theorem RdC.c4 (h : RdC w b m v g t f x) : w.cell? ⟨b, 4, none⟩ = some (.int .i64 f) := by have h' : w.heap[b]? = _ := h; simp [World.cell?, h']
theorem RdC.c5 (h : RdC w b m v g t f x) : w.cell? ⟨b, 5, none⟩ = some x := by have h' : w.heap[b]? = _ := h; simp [World.cell?, h']
theorem RdC.fr (h : RdC w b m v g t f x) (o : Nat) : w.frozen? ⟨b, o, none⟩ = false := by have h' : w.heap[b]? = _ := h; simp [World.frozen?, h']
theorem RdC.drewN (h : RdC w b m v g t f x) (n : Nat) : RdC (w.drewN n) b m v g t f x := h
theorem RdC.put1 (h : RdC w b m v g t f x) (y : Int) : RdC (w.setCell ⟨b, 1, none⟩ (.int .i64 y)) b m y g t f x := by
  have h' : w.heap[b]? = _ := h
  simpa [RdC] using Go.heap_setCell_same w b 1 _ _ (.int .i64 y) h'
theorem RdC.put2 (h : RdC w b m v g t f x) (y : Bool) : RdC (w.setCell ⟨b, 2, none⟩ (.bool y)) b m v y t f x := by
  have h' : w.heap[b]? = _ := h
  simpa [RdC] using Go.heap_setCell_same w b 2 _ _ (.bool y) h'
theorem RdC.put3 (h : RdC w b m v g t f x) (y : Int) : RdC (w.setCell ⟨b, 3, none⟩ (.int .i64 y)) b m v g y f x := by
  have h' : w.heap[b]? = _ := h
  simpa [RdC] using Go.heap_setCell_same w b 3 _ _ (.int .i64 y) h'
theorem RdC.put4 (h : RdC w b m v g t f x) (y : Int) : RdC (w.setCell ⟨b, 4, none⟩ (.int .i64 y)) b m v g t y x := by
  have h' : w.heap[b]? = _ := h
  simpa [RdC] using Go.heap_setCell_same w b 4 _ _ (.int .i64 y) h'
theorem RdC.put5 (h : RdC w b m v g t f x) (y : Value) : RdC (w.setCell ⟨b, 5, none⟩ y) b m v g t f y := by
  have h' : w.heap[b]? = _ := h
  simpa [RdC] using Go.heap_setCell_same w b 5 _ _ y h'
end
theorem grown_set (W : World) (b o : Nat) (v : Value) : W.grownBy (W.setCell ⟨b, o, none⟩ v) (some b) :=
  ⟨rfl, rfl, rfl, by simp, fun k hk hn => Below.heap_setCell W _ v k (by intro e; exact hn (by rw [e]))⟩
theorem grown_drew (W : World) (n : Nat) (row : Option Nat) : W.grownBy (W.drewN n) row := ⟨rfl, rfl, rfl, Nat.le_refl _, fun _ _ _ => rfl⟩
def nxA (b : Nat) : Value := .func (.func 220) #[.pointer (some ⟨b, 0, none⟩)] #[]
def nxR (b : Nat) : Value := .func (.func 221) #[.pointer (some ⟨b, 0, none⟩)] #[]
def nxD (b : Nat) : Value := .func (.func 222) #[.pointer (some ⟨b, 0, none⟩)] #[]
def nxB (b : Nat) : Value := .func (.func 225) #[.pointer (some ⟨b, 0, none⟩)] #[]
set_option maxHeartbeats 1000000 in
theorem tokNew_any (m : Int) (w : World) :
    Calls Tryz.prog 213 #[.int .i64 m] w fun e w' => e = .returned (.pointer (some ⟨w.heap.size, 0, none⟩)) ∧ RdC w' w.heap.size m 0 false 0 0 (nxA w.heap.size) ∧ Below w.heap.size w w' := by
  go_enter Tryz.func213, Tryz.ntmps213
  go_wp2
  go_ret
  exact ⟨rfl, World.alloc_heap_new w _, by go_grown⟩
theorem Tk.blank_yes {c : Int} (h : c = 32 ∨ (9 ≤ c ∧ c ≤ 13)) : Tk.blank c = true := by unfold Tk.blank; exact decide_eq_true h
theorem Tk.blank_no {c : Int} (h : ¬ (c = 32 ∨ (9 ≤ c ∧ c ≤ 13))) : Tk.blank c = false := by unfold Tk.blank; exact decide_eq_false h
theorem ret_b {a b : Bool} (h : a = b) : Ending.returned (.bool a) = .returned (.bool b) := by rw [h]
set_option maxHeartbeats 1000000 in
theorem blank_any (c : Int) (c0 : 0 ≤ c) (c1 : c ≤ 255) (w : World) :
    Calls Tryz.prog 128 #[.int .u8 c] w fun e w' => e = .returned (.bool (Tk.blank c)) ∧ w = w' := by
  by_cases h1 : c < 9
  · have X := Lib.hid (Tk.blank_no (c := c) (by omega))
    have h2 : (c == 32) = false := by simp; omega
    have h3 : decide (9 ≤ c) = false := decide_eq_false (by omega)
    clear c0 c1
    go_enter Tryz.func128, Tryz.ntmps128
    go_wp2
    go_ret
    exact ⟨ret_b X.out.symm, rfl⟩
  by_cases h2 : c ≤ 13
  · have X := Lib.hid (Tk.blank_yes (c := c) (by omega))
    have h3 : decide (9 ≤ c) = true := decide_eq_true (by omega)
    have h4 : decide (c ≤ 13) = true := decide_eq_true (by omega)
    have h5 : 9 ≤ c := by omega
    clear h1
    go_enter Tryz.func128, Tryz.ntmps128
    go_wp2
    go_ret
    exact ⟨ret_b X.out.symm, rfl⟩
  have h3 : decide (9 ≤ c) = true := decide_eq_true (by omega)
  have h4 : decide (c ≤ 13) = false := decide_eq_false (by omega)
  have h6 : 9 ≤ c := by omega
  by_cases h5 : c = 32
  · subst h5
    have X := Lib.hid (Tk.blank_yes (c := 32) (by omega))
    go_enter Tryz.func128, Tryz.ntmps128
    go_wp2
    go_ret
    exact ⟨ret_b X.out.symm, rfl⟩
  · have X := Lib.hid (Tk.blank_no (c := c) (by omega))
    have h7 : (c == 32) = false := by simp; omega
    go_enter Tryz.func128, Tryz.ntmps128
    go_wp2
    go_ret
    exact ⟨ret_b X.out.symm, rfl⟩
set_option maxHeartbeats 1000000 in
theorem refBlank_any (c : Int) (c0 : 0 ≤ c) (c1 : c ≤ 255) (w : World) :
    Calls Tryz.prog 78 #[.int .u8 c] w fun e w' => e = .returned (.bool (Tk.blank c)) ∧ w = w' := by
  by_cases h5 : c = 32
  · subst h5
    have X := Lib.hid (Tk.blank_yes (c := 32) (by omega))
    go_enter Tryz.func78, Tryz.ntmps78
    go_wp2
    go_ret
    exact ⟨ret_b X.out.symm, rfl⟩
  have h7 : (c == 32) = false := by simp; omega
  by_cases h1 : c < 9
  · have X := Lib.hid (Tk.blank_no (c := c) (by omega))
    have h3 : decide (9 ≤ c) = false := decide_eq_false (by omega)
    clear c0 c1
    go_enter Tryz.func78, Tryz.ntmps78
    go_wp2
    go_ret
    exact ⟨ret_b X.out.symm, rfl⟩
  have h3 : decide (9 ≤ c) = true := decide_eq_true (by omega)
  have h6 : 9 ≤ c := by omega
  by_cases h2 : c ≤ 13
  · have X := Lib.hid (Tk.blank_yes (c := c) (by omega))
    have h4 : decide (c ≤ 13) = true := decide_eq_true (by omega)
    go_enter Tryz.func78, Tryz.ntmps78
    go_wp2
    go_ret
    exact ⟨ret_b X.out.symm, rfl⟩
  · have X := Lib.hid (Tk.blank_no (c := c) (by omega))
    have h4 : decide (c ≤ 13) = false := decide_eq_false (by omega)
    go_enter Tryz.func78, Tryz.ntmps78
    go_wp2
    go_ret
    exact ⟨ret_b X.out.symm, rfl⟩
set_option maxHeartbeats 1000000 in
theorem ends_any (c : Int) (c0 : 0 ≤ c) (c1 : c ≤ 255) (w : World) :
    Calls Tryz.prog 224 #[.int .u8 c] w fun e w' => e = .returned (.bool (Tk.line c)) ∧ w = w' := by
  by_cases h5 : c = 10
  · subst h5
    go_enter Tryz.func224, Tryz.ntmps224
    go_wp2
    go_ret
    exact ⟨rfl, rfl⟩
  have h7 : (c == 10) = false := by simp; omega
  by_cases h6 : c = 13
  · subst h6
    go_enter Tryz.func224, Tryz.ntmps224
    go_wp2
    go_ret
    exact ⟨rfl, rfl⟩
  · have h8 : (c == 13) = false := by simp; omega
    have X : Hid (Tk.line c = false) := by show _ = _; unfold Tk.line; exact decide_eq_false (by omega)
    go_enter Tryz.func224, Tryz.ntmps224
    go_wp2
    go_ret
    exact ⟨ret_b X.out.symm, rfl⟩
set_option maxHeartbeats 1000000 in
theorem take_yes (w : World) (b : Nat) (m v : Int) (g : Bool) (t f : Int) (x : Value) (h : RdC w b m v g t f x) (v0 : 0 ≤ v) (v1 : v ≤ m) (m1 : m ≤ 4611686018427387903) (c : Int) (c0 : 0 ≤ c) (c1 : c ≤ 255) (n : Int) (hs : Nu.stepV v c m = (n, 0)) :
    Calls Tryz.prog 223 #[.pointer (some ⟨b, 0, none⟩), .int .u8 c] w fun e w' => e = .returned (.int .i64 0) ∧ RdC w' b m n true t f x ∧ w.grownBy w' (some b) := by
  have hc0 := h.c0
  have hc1 := h.c1
  have hc2 := h.c2
  have HS : Hid (∀ W, Calls Tryz.prog 207 #[.int .i64 v, .int .u8 c, .int .i64 m] W fun r w' => r = .returned (.tuple #[.int .i64 n, .int .i64 0]) ∧ W = w') := fun W => step_two v c m v0 v1 m1 c0 c1 n 0 hs W
  have f1 := h.fr 1
  have f2 := h.fr 2
  clear hs
  go_enter Tryz.func223, Tryz.ntmps223
  go_wp2_with (go_quiet ((go_at_call 207; exact Calls.quiet_of_same ((HS.out _).mono fun e w' hh => ⟨hh.1, hh.2.symm⟩))))
  go_ret
  exact ⟨rfl, ((h.drewN _).put1 _).put2 _, ((grown_drew _ _ _).trans (grown_set _ _ _ _)).trans (grown_set _ _ _ _)⟩
set_option maxHeartbeats 1000000 in
theorem take_no (w : World) (b : Nat) (m v : Int) (g : Bool) (t f : Int) (x : Value) (h : RdC w b m v g t f x) (v0 : 0 ≤ v) (v1 : v ≤ m) (m1 : m ≤ 4611686018427387903) (c : Int) (c0 : 0 ≤ c) (c1 : c ≤ 255) (n e : Int) (hs : Nu.stepV v c m = (n, e)) (he : e ≠ 0) :
    Calls Tryz.prog 223 #[.pointer (some ⟨b, 0, none⟩), .int .u8 c] w fun r w' => r = .returned (.int .i64 2) ∧ RdC w' b m v g t e x ∧ w.grownBy w' (some b) := by
  have hc0 := h.c0
  have hc1 := h.c1
  have HS : Hid (∀ W, Calls Tryz.prog 207 #[.int .i64 v, .int .u8 c, .int .i64 m] W fun r w' => r = .returned (.tuple #[.int .i64 n, .int .i64 e]) ∧ W = w') := fun W => step_two v c m v0 v1 m1 c0 c1 n e hs W
  have f4 := h.fr 4
  have hc4 := h.c4
  have ke : (e != 0) = true := by simpa using he
  clear hs he
  go_enter Tryz.func223, Tryz.ntmps223
  go_wp2_with (go_quiet ((go_at_call 207; exact Calls.quiet_of_same ((HS.out _).mono fun e w' hh => ⟨hh.1, hh.2.symm⟩))))
  go_ret
  exact ⟨rfl, (h.drewN _).put4 _, (grown_drew _ _ _).trans (grown_set _ _ _ _)⟩
end Go.Proofs.YtkjkepnailamnaaGreat
namespace Go.Proofs.YtkjkepnailamnaaGreat
open Go.RowKit
set_option linter.unusedVariables false
def PtR (w : World) (b : Nat) (m v : Int) (g : Bool) (f : Int) (x : Value) (t : Int) (e : Ending) (w' : World) : Prop :=
  e = .returned (.int .i64 t) ∧ RdC w' b m v g 0 f x ∧ w.grownBy w' (some b)
set_option maxHeartbeats 1000000 in
theorem ahead_blank (w : World) (b : Nat) (m v : Int) (g : Bool) (f : Int) (c : Int) (c0 : 0 ≤ c) (c1 : c ≤ 255) (hb : Tk.blank c = true) (h : RdC w b m v g 0 f (nxA b)) :
    Calls Tryz.prog 220 #[.pointer (some ⟨b, 0, none⟩), .int .u8 c] w (PtR w b m v g f (nxA b) 0) := by
  have HB : Hid (∀ W, Calls Tryz.prog 128 #[.int .u8 c] W fun e w' => e = .returned (.bool true) ∧ W = w') := fun W => by have := blank_any c c0 c1 W; rw [hb] at this; exact this
  clear hb
  go_enter Tryz.func220, Tryz.ntmps220
  go_wp2_with (go_at_call 128; refine (HB.out _).mono ?_; rintro e w1 ⟨rfl, rfl⟩)
  go_ret
  exact ⟨rfl, h, .refl _ _⟩
set_option maxHeartbeats 1000000 in
theorem ahead_rem (w : World) (b : Nat) (m v : Int) (g : Bool) (f : Int) (c : Int) (c0 : 0 ≤ c) (c1 : c ≤ 255) (hc : c = 35) (h : RdC w b m v g 0 f (nxA b)) :
    Calls Tryz.prog 220 #[.pointer (some ⟨b, 0, none⟩), .int .u8 c] w (PtR w b m v g f (nxR b) 0) := by
  subst hc
  have hb : Tk.blank 35 = false := by decide
  have HB : Hid (∀ W, Calls Tryz.prog 128 #[.int .u8 35] W fun e w' => e = .returned (.bool false) ∧ W = w') := fun W => by have := blank_any 35 c0 c1 W; rw [hb] at this; exact this
  have hc5 := h.c5
  have hf5 := h.fr 5
  clear hb
  go_enter Tryz.func220, Tryz.ntmps220
  go_wp2_with (go_at_call 128; refine (HB.out _).mono ?_; rintro e w1 ⟨rfl, rfl⟩)
  go_ret
  exact ⟨rfl, h.put5 _, grown_set _ _ _ _⟩
set_option maxHeartbeats 1000000 in
theorem ahead_yes (w : World) (b : Nat) (m v : Int) (g : Bool) (f : Int) (c : Int) (c0 : 0 ≤ c) (c1 : c ≤ 255) (hb : Tk.blank c = false) (hc : ¬ c = 35) (v0 : 0 ≤ v) (v1 : v ≤ m) (m1 : m ≤ 4611686018427387903) (n : Int) (hs : Nu.stepV v c m = (n, 0)) (h : RdC w b m v g 0 f (nxA b)) :
    Calls Tryz.prog 220 #[.pointer (some ⟨b, 0, none⟩), .int .u8 c] w (PtR w b m n true f (nxD b) 0) := by
  have HB : Hid (∀ W, Calls Tryz.prog 128 #[.int .u8 c] W fun e w' => e = .returned (.bool false) ∧ W = w') := fun W => by have := blank_any c c0 c1 W; rw [hb] at this; exact this
  have HT : Hid (∀ W, RdC W b m v g 0 f (nxD b) → Calls Tryz.prog 223 #[.pointer (some ⟨b, 0, none⟩), .int .u8 c] W (PtR W b m n true f (nxD b) 0)) := fun W hr => (take_yes W b m v g 0 f (nxD b) hr v0 v1 m1 c c0 c1 n hs).mono fun _ _ hh => hh
  have hk : (c == 35) = false := by simpa using hc
  have hc5 := h.c5
  have hf5 := h.fr 5
  clear hb hc v0 v1 m1 hs
  go_enter Tryz.func220, Tryz.ntmps220
  go_wp2_with (first | (go_at_call 128; refine (HB.out _).mono ?_; rintro e w1 ⟨rfl, rfl⟩) | (go_at_call 223; refine (HT.out _ (h.put5 _)).mono ?_; rintro e w2 ⟨rfl, h2, hg2⟩))
  go_ret
  exact ⟨rfl, h2, (grown_set _ _ _ _).trans hg2⟩
set_option maxHeartbeats 1000000 in
theorem digit_yes (w : World) (b : Nat) (m v : Int) (g : Bool) (f : Int) (c : Int) (c0 : 0 ≤ c) (c1 : c ≤ 255) (hb : Tk.blank c = false) (hc : ¬ c = 35) (v0 : 0 ≤ v) (v1 : v ≤ m) (m1 : m ≤ 4611686018427387903) (n : Int) (hs : Nu.stepV v c m = (n, 0)) (h : RdC w b m v g 0 f (nxD b)) :
    Calls Tryz.prog 222 #[.pointer (some ⟨b, 0, none⟩), .int .u8 c] w (PtR w b m n true f (nxD b) 0) := by
  have HB : Hid (∀ W, Calls Tryz.prog 128 #[.int .u8 c] W fun e w' => e = .returned (.bool false) ∧ W = w') := fun W => by have := blank_any c c0 c1 W; rw [hb] at this; exact this
  have HT : Hid (∀ W, RdC W b m v g 0 f (nxD b) → Calls Tryz.prog 223 #[.pointer (some ⟨b, 0, none⟩), .int .u8 c] W (PtR W b m n true f (nxD b) 0)) := fun W hr => (take_yes W b m v g 0 f (nxD b) hr v0 v1 m1 c c0 c1 n hs).mono fun _ _ hh => hh
  have hk : (c == 35) = false := by simpa using hc
  clear hb hc v0 v1 m1 hs
  go_enter Tryz.func222, Tryz.ntmps222
  go_wp2_with (first | (go_at_call 128; refine (HB.out _).mono ?_; rintro e w1 ⟨rfl, rfl⟩) | (go_at_call 223; refine (HT.out _ h).mono ?_; rintro e w2 ⟨rfl, h2, hg2⟩))
  go_ret
  exact ⟨rfl, h2, hg2⟩
set_option maxHeartbeats 1000000 in
theorem ahead_no (w : World) (b : Nat) (m v : Int) (g : Bool) (f : Int) (c : Int) (c0 : 0 ≤ c) (c1 : c ≤ 255) (hb : Tk.blank c = false) (hc : ¬ c = 35) (v0 : 0 ≤ v) (v1 : v ≤ m) (m1 : m ≤ 4611686018427387903) (n e : Int) (hs : Nu.stepV v c m = (n, e)) (he : e ≠ 0) (h : RdC w b m v g 0 f (nxA b)) :
    Calls Tryz.prog 220 #[.pointer (some ⟨b, 0, none⟩), .int .u8 c] w (PtR w b m v g e (nxD b) 2) := by
  have HB : Hid (∀ W, Calls Tryz.prog 128 #[.int .u8 c] W fun e w' => e = .returned (.bool false) ∧ W = w') := fun W => by have := blank_any c c0 c1 W; rw [hb] at this; exact this
  have HT : Hid (∀ W, RdC W b m v g 0 f (nxD b) → Calls Tryz.prog 223 #[.pointer (some ⟨b, 0, none⟩), .int .u8 c] W (PtR W b m v g e (nxD b) 2)) := fun W hr => (take_no W b m v g 0 f (nxD b) hr v0 v1 m1 c c0 c1 n e hs he).mono fun _ _ hh => hh
  have hk : (c == 35) = false := by simpa using hc
  have hc5 := h.c5
  have hf5 := h.fr 5
  clear hb hc v0 v1 m1 hs he
  go_enter Tryz.func220, Tryz.ntmps220
  go_wp2_with (first | (go_at_call 128; refine (HB.out _).mono ?_; rintro e w1 ⟨rfl, rfl⟩) | (go_at_call 223; refine (HT.out _ (h.put5 _)).mono ?_; rintro e w2 ⟨rfl, h2, hg2⟩))
  go_ret
  exact ⟨rfl, h2, (grown_set _ _ _ _).trans hg2⟩
set_option maxHeartbeats 1000000 in
theorem digit_no (w : World) (b : Nat) (m v : Int) (g : Bool) (f : Int) (c : Int) (c0 : 0 ≤ c) (c1 : c ≤ 255) (hb : Tk.blank c = false) (hc : ¬ c = 35) (v0 : 0 ≤ v) (v1 : v ≤ m) (m1 : m ≤ 4611686018427387903) (n e : Int) (hs : Nu.stepV v c m = (n, e)) (he : e ≠ 0) (h : RdC w b m v g 0 f (nxD b)) :
    Calls Tryz.prog 222 #[.pointer (some ⟨b, 0, none⟩), .int .u8 c] w (PtR w b m v g e (nxD b) 2) := by
  have HB : Hid (∀ W, Calls Tryz.prog 128 #[.int .u8 c] W fun e w' => e = .returned (.bool false) ∧ W = w') := fun W => by have := blank_any c c0 c1 W; rw [hb] at this; exact this
  have HT : Hid (∀ W, RdC W b m v g 0 f (nxD b) → Calls Tryz.prog 223 #[.pointer (some ⟨b, 0, none⟩), .int .u8 c] W (PtR W b m v g e (nxD b) 2)) := fun W hr => (take_no W b m v g 0 f (nxD b) hr v0 v1 m1 c c0 c1 n e hs he).mono fun _ _ hh => hh
  have hk : (c == 35) = false := by simpa using hc
  clear hb hc v0 v1 m1 hs he
  go_enter Tryz.func222, Tryz.ntmps222
  go_wp2_with (first | (go_at_call 128; refine (HB.out _).mono ?_; rintro e w1 ⟨rfl, rfl⟩) | (go_at_call 223; refine (HT.out _ h).mono ?_; rintro e w2 ⟨rfl, h2, hg2⟩))
  go_ret
  exact ⟨rfl, h2, hg2⟩
set_option maxHeartbeats 1000000 in
theorem digit_blank (w : World) (b : Nat) (m v : Int) (g : Bool) (f : Int) (c : Int) (c0 : 0 ≤ c) (c1 : c ≤ 255) (hb : Tk.blank c = true) (h : RdC w b m v g 0 f (nxD b)) :
    Calls Tryz.prog 222 #[.pointer (some ⟨b, 0, none⟩), .int .u8 c] w (PtR w b m v g f (nxD b) 1) := by
  have HB : Hid (∀ W, Calls Tryz.prog 128 #[.int .u8 c] W fun e w' => e = .returned (.bool true) ∧ W = w') := fun W => by have := blank_any c c0 c1 W; rw [hb] at this; exact this
  clear hb
  go_enter Tryz.func222, Tryz.ntmps222
  go_wp2_with (go_at_call 128; refine (HB.out _).mono ?_; rintro e w1 ⟨rfl, rfl⟩)
  go_ret
  exact ⟨rfl, h, .refl _ _⟩
set_option maxHeartbeats 1000000 in
theorem digit_rem (w : World) (b : Nat) (m v : Int) (g : Bool) (f : Int) (c : Int) (c0 : 0 ≤ c) (c1 : c ≤ 255) (hc : c = 35) (h : RdC w b m v g 0 f (nxD b)) :
    Calls Tryz.prog 222 #[.pointer (some ⟨b, 0, none⟩), .int .u8 c] w (PtR w b m v g f (nxB b) 0) := by
  subst hc
  have hb : Tk.blank 35 = false := by decide
  have HB : Hid (∀ W, Calls Tryz.prog 128 #[.int .u8 35] W fun e w' => e = .returned (.bool false) ∧ W = w') := fun W => by have := blank_any 35 c0 c1 W; rw [hb] at this; exact this
  have hc5 := h.c5
  have hf5 := h.fr 5
  clear hb
  go_enter Tryz.func222, Tryz.ntmps222
  go_wp2_with (go_at_call 128; refine (HB.out _).mono ?_; rintro e w1 ⟨rfl, rfl⟩)
  go_ret
  exact ⟨rfl, h.put5 _, grown_set _ _ _ _⟩
set_option maxHeartbeats 1000000 in
theorem remA_line (w : World) (b : Nat) (m v : Int) (g : Bool) (f : Int) (c : Int) (c0 : 0 ≤ c) (c1 : c ≤ 255) (hb : Tk.line c = true) (h : RdC w b m v g 0 f (nxR b)) :
    Calls Tryz.prog 221 #[.pointer (some ⟨b, 0, none⟩), .int .u8 c] w (PtR w b m v g f (nxA b) 0) := by
  have HB : Hid (∀ W, Calls Tryz.prog 224 #[.int .u8 c] W fun e w' => e = .returned (.bool true) ∧ W = w') := fun W => by have := ends_any c c0 c1 W; rw [hb] at this; exact this
  have hc5 := h.c5
  have hf5 := h.fr 5
  clear hb
  go_enter Tryz.func221, Tryz.ntmps221
  go_wp2_with (go_at_call 224; refine (HB.out _).mono ?_; rintro e w1 ⟨rfl, rfl⟩)
  go_ret
  exact ⟨rfl, h.put5 _, grown_set _ _ _ _⟩
set_option maxHeartbeats 1000000 in
theorem remA_not (w : World) (b : Nat) (m v : Int) (g : Bool) (f : Int) (c : Int) (c0 : 0 ≤ c) (c1 : c ≤ 255) (hb : Tk.line c = false) (h : RdC w b m v g 0 f (nxR b)) :
    Calls Tryz.prog 221 #[.pointer (some ⟨b, 0, none⟩), .int .u8 c] w (PtR w b m v g f (nxR b) 0) := by
  have HB : Hid (∀ W, Calls Tryz.prog 224 #[.int .u8 c] W fun e w' => e = .returned (.bool false) ∧ W = w') := fun W => by have := ends_any c c0 c1 W; rw [hb] at this; exact this
  clear hb
  go_enter Tryz.func221, Tryz.ntmps221
  go_wp2_with (go_at_call 224; refine (HB.out _).mono ?_; rintro e w1 ⟨rfl, rfl⟩)
  go_ret
  exact ⟨rfl, h, .refl _ _⟩
set_option maxHeartbeats 1000000 in
theorem remB_line (w : World) (b : Nat) (m v : Int) (g : Bool) (f : Int) (c : Int) (c0 : 0 ≤ c) (c1 : c ≤ 255) (hb : Tk.line c = true) (h : RdC w b m v g 0 f (nxB b)) :
    Calls Tryz.prog 225 #[.pointer (some ⟨b, 0, none⟩), .int .u8 c] w (PtR w b m v g f (nxB b) 1) := by
  have HB : Hid (∀ W, Calls Tryz.prog 224 #[.int .u8 c] W fun e w' => e = .returned (.bool true) ∧ W = w') := fun W => by have := ends_any c c0 c1 W; rw [hb] at this; exact this
  clear hb
  go_enter Tryz.func225, Tryz.ntmps225
  go_wp2_with (go_at_call 224; refine (HB.out _).mono ?_; rintro e w1 ⟨rfl, rfl⟩)
  go_ret
  exact ⟨rfl, h, .refl _ _⟩
set_option maxHeartbeats 1000000 in
theorem remB_not (w : World) (b : Nat) (m v : Int) (g : Bool) (f : Int) (c : Int) (c0 : 0 ≤ c) (c1 : c ≤ 255) (hb : Tk.line c = false) (h : RdC w b m v g 0 f (nxB b)) :
    Calls Tryz.prog 225 #[.pointer (some ⟨b, 0, none⟩), .int .u8 c] w (PtR w b m v g f (nxB b) 0) := by
  have HB : Hid (∀ W, Calls Tryz.prog 224 #[.int .u8 c] W fun e w' => e = .returned (.bool false) ∧ W = w') := fun W => by have := ends_any c c0 c1 W; rw [hb] at this; exact this
  clear hb
  go_enter Tryz.func225, Tryz.ntmps225
  go_wp2_with (go_at_call 224; refine (HB.out _).mono ?_; rintro e w1 ⟨rfl, rfl⟩)
  go_ret
  exact ⟨rfl, h, .refl _ _⟩
set_option maxHeartbeats 1000000 in
theorem put_next (w : World) (b n : Nat) (m v : Int) (g : Bool) (f : Int) (c : Int) (m' v' : Int) (g' : Bool) (f' : Int) (x' : Value) (t' : Int) (hn : ∀ args w, (callFunc n args).run Tryz.prog w = .ok (.enter n args) w)
    (h : RdC w b m v g 0 f (.func (.func n) #[.pointer (some ⟨b, 0, none⟩)] #[])) (hcall : Calls Tryz.prog n #[.pointer (some ⟨b, 0, none⟩), .int .u8 c] w (PtR w b m v' g' f' x' t')) :
    Calls Tryz.prog 214 #[.pointer (some ⟨b, 0, none⟩), .int .u8 c] w fun e w' => e = .returned (.int .i64 t') ∧ RdC w' b m v' g' t' f' x' ∧ w.grownBy w' (some b) := by
  have hc3 := h.c3
  have hc5 := h.c5
  have HC := Lib.hid hcall
  clear hcall
  go_enter Tryz.func214, Tryz.ntmps214
  go_wp2_with (go_at_fn n; refine HC.out.mono ?_; rintro e w2 ⟨rfl, h2, hg2⟩; have hd3 := h2.c3; have hf3 := h2.fr 3)
  go_ret
  exact ⟨rfl, h2.put3 _, hg2.trans (grown_set _ _ _ _)⟩
set_option maxHeartbeats 1000000 in
theorem put_done (w : World) (b : Nat) (m v : Int) (g : Bool) (f : Int) (c t : Int) (x : Value) (ht : t ≠ 0) (h : RdC w b m v g t f x) :
    Calls Tryz.prog 214 #[.pointer (some ⟨b, 0, none⟩), .int .u8 c] w fun e w' => e = .returned (.int .i64 t) ∧ w = w' := by
  have hc3 := h.c3
  have ht' : (t == 0) = false := by simpa using ht
  go_enter Tryz.func214, Tryz.ntmps214
  go_wp2
  go_ret
  exact ⟨rfl, rfl⟩
end Go.Proofs.YtkjkepnailamnaaGreat
namespace Go.Proofs.YtkjkepnailamnaaGreat
open Go.RowKit
set_option linter.unusedVariables false
theorem Hj.chan_at (h : Hd.H) : Hj.chan h = 1 ∨ Hj.chan h = 3 := by unfold Hj.chan; split <;> simp
theorem Hj.kinds {k : Int} (h1 : 1 ≤ k) (h6 : k ≤ 6) : k = 1 ∨ k = 2 ∨ k = 3 ∨ k = 4 ∨ k = 5 ∨ k = 6 := by omega
def Hj.fm (h : Hd.H) : Value := .agg #[.int .i64 (Hj.chan h), .int .i64 h.m]
set_option maxHeartbeats 1000000 in
theorem hformat_any (h : Hd.H) (hm : Hd.May h) (w : World) :
    Calls Tryz.prog 59 #[agH h] w fun e w' => e = .returned (Hj.fm h) ∧ Below w.heap.size w w' := by
  obtain ⟨kd, ww, hh, m⟩ := h
  obtain ⟨⟨a1, a2⟩, _⟩ := hm
  unfold agH Hj.fm
  rcases Hj.kinds a1 a2 with h | h | h | h | h | h
  all_goals
    simp only at h
    subst h
    clear a1 a2
    go_enter Tryz.func59, Tryz.ntmps59
    go_wp2
    go_returns
    exact ⟨rfl, by go_grown⟩
set_option maxHeartbeats 1000000 in
theorem refFormat_any (h : Hd.H) (hm : Hd.May h) (w : World) :
    Calls Tryz.prog 62 #[agH h] w fun e w' => e = .returned (Hj.fm h) ∧ Below w.heap.size w w' := by
  obtain ⟨kd, ww, hh, m⟩ := h
  obtain ⟨⟨a1, a2⟩, _⟩ := hm
  unfold agH Hj.fm
  rcases Hj.kinds a1 a2 with h | h | h | h | h | h
  all_goals
    simp only at h
    subst h
    clear a1 a2
    go_enter Tryz.func62, Tryz.ntmps62
    go_wp2
    go_returns
    exact ⟨rfl, by go_grown⟩
set_option maxHeartbeats 1000000 in
theorem hraw_any (h : Hd.H) (hm : Hd.May h) (w : World) :
    Calls Tryz.prog 87 #[agH h] w fun e w' => e = .returned (.bool (decide (3 < h.kd))) ∧ Below w.heap.size w w' := by
  obtain ⟨kd, ww, hh, m⟩ := h
  obtain ⟨⟨a1, a2⟩, _⟩ := hm
  unfold agH
  rcases Hj.kinds a1 a2 with h | h | h | h | h | h
  all_goals
    simp only at h
    subst h
    clear a1 a2
    go_enter Tryz.func87, Tryz.ntmps87
    go_wp2
    go_ret
    exact ⟨rfl, by go_grown⟩
end Go.Proofs.YtkjkepnailamnaaGreat
namespace Go.Proofs.YtkjkepnailamnaaGreat
open Go.RowKit
set_option linter.unusedVariables false
namespace Bt
theorem and1 (d : Int) (h : 0 ≤ d) (h2 : d ≤ 255) : Go.bits BinOp.and IntKind.u8 d 1 = d % 2 := by
  obtain ⟨n, rfl⟩ : ∃ n : Nat, d = n := ⟨d.toNat, by omega⟩
  have := u8_and_nat n 1 (by omega) (by omega)
  rw [show ((1 : Nat) : Int) = 1 from rfl] at this
  rw [this, Nat.and_one_is_mod]
  omega
set_option maxRecDepth 100000 in
theorem split_any (c : Int) (h0 : 0 ≤ c) (h1 : c ≤ 255) (w : World) : Calls Tryz.prog 218 #[.int .u8 c] w fun e w' => e = .returned (.agg #[.int .i64 (c / 128 % 2), .int .i64 (c / 64 % 2), .int .i64 (c / 32 % 2), .int .i64 (c / 16 % 2), .int .i64 (c / 8 % 2), .int .i64 (c / 4 % 2), .int .i64 (c / 2 % 2), .int .i64 (c % 2)]) ∧ Below w.heap.size w w' := by
  have N : ∀ d, 0 ≤ d → d ≤ 255 → ∃ x, Go.bits BinOp.and IntKind.u8 d 1 = x ∧ 0 ≤ x ∧ x ≤ 1 ∧ Hid (d % 2 = x) := fun d h k => ⟨d % 2, and1 d h k, by omega, by omega, Lib.hid rfl⟩
  obtain ⟨x0, e0, p0, q0, H0⟩ := N c (by omega) (by omega)
  obtain ⟨x1, e1, p1, q1, H1⟩ := N (c / 2) (by omega) (by omega)
  obtain ⟨x2, e2, p2, q2, H2⟩ := N (c / 4) (by omega) (by omega)
  obtain ⟨x3, e3, p3, q3, H3⟩ := N (c / 8) (by omega) (by omega)
  obtain ⟨x4, e4, p4, q4, H4⟩ := N (c / 16) (by omega) (by omega)
  obtain ⟨x5, e5, p5, q5, H5⟩ := N (c / 32) (by omega) (by omega)
  obtain ⟨x6, e6, p6, q6, H6⟩ := N (c / 64) (by omega) (by omega)
  obtain ⟨x7, e7, p7, q7, H7⟩ := N (c / 128) (by omega) (by omega)
  rw [H0.out, H1.out, H2.out, H3.out, H4.out, H5.out, H6.out, H7.out]
  clear N
  go_enter Tryz.func218, Tryz.ntmps218
  go_wp2
  go_rounds 9
  exact bodyPost_ret (v := .agg #[.int .i64 x7, .int .i64 x6, .int .i64 x5, .int .i64 x4, .int .i64 x3, .int .i64 x2, .int .i64 x1, .int .i64 x0]) (by simp [results, Tryz.results218, go_sem]) rfl ⟨rfl, by go_grown⟩
end Bt
end Go.Proofs.YtkjkepnailamnaaGreat
namespace Go.Proofs.YtkjkepnailamnaaGreat
open Go.RowKit Go.Shelf
attribute [local go_sem] Oper.semAt_some
set_option linter.unusedVariables false
namespace Bt
def Made (v : Value) (n : Int) (w : World) (e : Ending) (w' : World) : Prop :=
  ∃ nb bb, e = .returned (.func (.func 217) #[] #[.pointer (some ⟨nb, 0, none⟩), .pointer (some ⟨bb, 0, none⟩)]) ∧ nb ≠ bb ∧ w.heap.size ≤ nb ∧ w.heap.size ≤ bb ∧
    w'.cell? ⟨nb, 0, none⟩ = some v ∧ w'.cell? ⟨bb, 0, none⟩ = some (.int .i64 n) ∧ Below w.heap.size w w'
theorem pixels_made (a : Option Addr) (len cap : Nat) (n : Int) (w : World) : Calls Tryz.prog 209 #[.slice a len cap, .int .i64 n] w (Made (.slice a len cap) n w) := by
  go_enter Tryz.func209, Tryz.ntmps209
  go_wp2
  go_ret
  exact ⟨_, _, rfl, by omega, by omega, by omega, by simp [go_sem], by simp [go_sem], by go_grown⟩
theorem sep_below {Z : Nat → Prop} {A B : World} (h : Below A.heap.size A B) : Sep Z A B := ⟨h.os, h.tape, h.output, h.size, fun k hk _ => h.block k hk⟩
theorem take_split (xs : List Int) (p : Nat) (h : p < xs.length) : xs = xs.take p ++ xs.getD p 0 :: xs.drop (p + 1) := by
  conv => lhs; rw [← List.take_append_drop p xs, List.drop_eq_getElem_cons h]
  rw [List.getD_eq_getElem?_getD, List.getElem?_eq_getElem h]; rfl
theorem take_next (xs : List Int) (p : Nat) (h : p < xs.length) : xs.take p ++ [xs.getD p 0] = xs.take (p + 1) := by
  rw [List.take_succ_eq_append_getElem h, List.getD_eq_getElem?_getD, List.getElem?_eq_getElem h]; rfl
theorem getD_left (a b : List Int) (j : Nat) (h : j < a.length) : (a ++ b).getD j 0 = a.getD j 0 := by
  rw [List.getD_eq_getElem?_getD, List.getD_eq_getElem?_getD, List.getElem?_append_left h]
theorem getD_right (a b : List Int) (j : Nat) : (a ++ b).getD (a.length + j) 0 = b.getD j 0 := by
  rw [List.getD_eq_getElem?_getD, List.getD_eq_getElem?_getD, List.getElem?_append_right (by omega)]; congr 2; omega
theorem bitsOf_get : ∀ (zs : List Int) (k j : Nat), k < zs.length → j < 8 → (bitsOf zs).getD (8 * k + j) 0 = (eight (zs.getD k 0)).getD j 0
  | [], k, j, h, _ => by simp at h
  | c :: l, 0, j, h, hj => by
    rw [bitsOf, Nat.mul_zero, Nat.zero_add, getD_left _ _ _ (by rw [eight_len]; exact hj)]; rfl
  | c :: l, k + 1, j, h, hj => by
    rw [bitsOf, show 8 * (k + 1) + j = (eight c).length + (8 * k + j) by rw [eight_len]; omega, getD_right]
    rw [List.getD_cons_succ]
    exact bitsOf_get l k j (by simpa using h) hj
theorem pix_get (zs : List Int) (W k j : Nat) (h : k < zs.length) (hj : j < 8) (hp : 8 * k + j < W) : ((bitsOf zs).take W).getD (8 * k + j) 0 = (eight (zs.getD k 0)).getD j 0 := by
  rw [← bitsOf_get zs k j h hj, List.getD_eq_getElem?_getD, List.getElem?_take_of_lt hp, ← List.getD_eq_getElem?_getD]
def Zs (nb bb : Nat) (w : World) (k : Nat) : Prop := k = nb ∨ k = bb ∨ w.heap.size + 2 ≤ k
def Zp (nb bb rb : Nat) (w : World) (k : Nat) : Prop := k = nb ∨ k = bb ∨ k = rb ∨ w.heap.size + 2 ≤ k
set_option maxRecDepth 100000 in
set_option maxHeartbeats 2000000 in
theorem pixels_gives (zs : List Int) (n W cap rb ro nb bb : Nat) (hzs : zs.length = n) (hby : ∀ z ∈ zs, 0 ≤ z ∧ z ≤ 255) (hn : 1 ≤ n) (hn2 : n ≤ 4096) (hW1 : W ≤ 8 * n) (hW2 : 8 * n < W + 8) (hcap : n ≤ cap) (W0 : World) (m : Nat) (hm : 1 ≤ m)
    (cn : W0.cell? ⟨nb, 0, none⟩ = some (.slice (some ⟨rb, ro, none⟩) n cap)) (cb : W0.cell? ⟨bb, 0, none⟩ = some (.int .i64 W)) (hr : ∀ i, i < n → W0.cell? ⟨rb, ro + i, none⟩ = some (.int .u8 (zs.getD i 0))) :
    GivesN Fence.wide m Tryz.prog 217 #[.pointer (some ⟨nb, 0, none⟩), .pointer (some ⟨bb, 0, none⟩)] (fun x : Int => #[.int .i64 x]) (Zp nb bb rb W0) (Zs nb bb W0) ((bitsOf zs).take W) W0 := by
  intro l J Jx Wd hWs hW hJ hJx hY h00
  have cn1 := hW.cell (.inl rfl) cn
  have cb1 := hW.cell (.inr (.inl rfl)) cb
  have hr1 : ∀ i, i < n → Wd.cell? ⟨rb, ro + i, none⟩ = some (.int .u8 (zs.getD i 0)) := fun i hi => hW.cell (.inr (.inr (.inl rfl))) (hr i hi)
  clear cn cb hr hW
  obtain ⟨xs, hxs⟩ : ∃ xs, (bitsOf zs).take W = xs := ⟨_, rfl⟩
  have hxl : xs.length = W := by rw [← hxs, List.length_take, bitsOf_len]; omega
  have hget : ∀ k j, k < n → j < 8 → 8 * k + j < W → xs.getD (8 * k + j) 0 = (eight (zs.getD k 0)).getD j 0 := fun k j h1 h2 h3 => by rw [← hxs]; exact pix_get zs W k j (by omega) h2 h3
  rw [hxs] at hY
  rw [hxs]
  clear hxs
  have HY := Lib.hid hY; clear hY
  have HG := Lib.hid hget; clear hget
  have HL := Lib.hid hxl; clear hxl
  have HR := Lib.hid hr1; clear hr1
  have HB := Lib.hid hby; clear hby
  refine callsIn_of_wp Tryz.func217 rfl trivial ?_ rfl
  simp only [Tryz.ntmps217, List.size_toArray, List.length_cons, List.length_nil, Nat.reduceAdd, Nat.reduceSub, Array.replicate_succ, Array.replicate_zero, List.push_toArray, List.append_toArray, List.nil_append, List.cons_append]
  gi_wp2
  gi_loopw [11] (fun i wr => ∃ k : Nat, k ≤ n ∧ i = .int .i64 k ∧ W0.heap.size + 2 ≤ wr.heap.size ∧ J (xs.take (8 * k)) wr ∧ wr.cell? ⟨bb, 0, none⟩ = some (.int .i64 W) ∧ Hid (∀ i, i < n → wr.cell? ⟨rb, ro + i, none⟩ = some (.int .u8 (zs.getD i 0)))) (fun i _ => n - (intOf i).toNat)
  case atStart => exact ⟨0, Nat.zero_le _, rfl, hWs, by simpa using h00, cb1, HR⟩
  case round =>
    obtain ⟨k, hk, rfl, hws, hj, c2, hrr⟩ := hrel
    clear cn1 cb1 HR h00 hWs
    by_cases hlt : k < n
    · obtain ⟨c, hc⟩ : ∃ c, zs.getD k 0 = c := ⟨_, rfl⟩
      have hcc := hrr.out k hlt
      rw [hc] at hcc
      have hcb : 0 ≤ c ∧ c ≤ 255 := by
        rw [← hc, List.getD_eq_getElem?_getD, List.getElem?_eq_getElem (by omega)]; exact HB.out _ (List.getElem_mem _)
      obtain ⟨c0, c1⟩ := hcb
      have HC := Lib.hid hc; clear hc
      have k0 : (0 : Int) ≤ k := Int.natCast_nonneg _
      have k1 : (k : Int) < n := by omega
      by_cases h8 : 8 * k + 8 ≤ W
      · have hmn : min (8 : Int) ((W : Int) - 8 * (k : Int)) = 8 := by omega
        gi_wp2_with (refine ⟨trivial, ?_⟩; gi_at_call 218; refine (callsIn_wide.2 (split_any c c0 c1 _)).mono ?_; rintro e w3 ⟨rfl, hb⟩; have hB := Lib.hid hb; have c23 := cell_later hb c2; have hs3 := hb.size; have nb3 := block_lt_of_cell c23; clear hb)
        obtain ⟨q, hq⟩ : ∃ q, w3.heap.size = q := ⟨_, rfl⟩
        obtain ⟨w4, h4⟩ : ∃ w4, w3.alloc (.cells #[.int .i64 (c / 128 % 2), .int .i64 (c / 64 % 2), .int .i64 (c / 32 % 2), .int .i64 (c / 16 % 2), .int .i64 (c / 8 % 2), .int .i64 (c / 4 % 2), .int .i64 (c / 2 % 2), .int .i64 (c % 2)] 273) = w4 := ⟨_, rfl⟩
        have hbel : Below wr.heap.size wr w4 := by rw [← h4]; exact hB.out.alloc (by omega) _
        have hs4 : w4.heap.size = q + 1 := by rw [← h4, World.size_alloc, hq]
        have h8c : Hid (∀ i, i < 8 → w4.cell? ⟨q, i, none⟩ = some (.int .i64 ((eight c).getD i 0))) := Lib.hid fun i hi => by
          rw [← h4, ← hq, World.cell?_alloc_at _ _ _ _ rfl]
          obtain rfl | rfl | rfl | rfl | rfl | rfl | rfl | rfl : i = 0 ∨ i = 1 ∨ i = 2 ∨ i = 3 ∨ i = 4 ∨ i = 5 ∨ i = 6 ∨ i = 7 := by omega
          all_goals rfl
        have c24 := cell_later hbel c2
        have hr4 : Hid (∀ i, i < n → w4.cell? ⟨rb, ro + i, none⟩ = some (.int .u8 (zs.getD i 0))) := Lib.hid fun i hi => cell_later hbel (hrr.out i hi)
        have hj4 : J (xs.take (8 * k)) w4 := hJ _ _ _ hj (sep_below hbel)
        have hq4 : W0.heap.size + 2 ≤ q := by omega
        rw [h4, hq]
        clear h4 hB hbel c23 nb3 hcc hrr hj c2
        clear hq hs3
        gi_loopw [25] (fun i wr' => ∃ j : Nat, j ≤ 8 ∧ i = .int .i64 j ∧ q + 1 ≤ wr'.heap.size ∧ J (xs.take (8 * k + j)) wr' ∧ wr'.cell? ⟨bb, 0, none⟩ = some (.int .i64 W) ∧ Hid (∀ i, i < n → wr'.cell? ⟨rb, ro + i, none⟩ = some (.int .u8 (zs.getD i 0))) ∧ Hid (∀ i, i < 8 → wr'.cell? ⟨q, i, none⟩ = some (.int .i64 ((eight c).getD i 0)))) (fun i _ => 8 - (intOf i).toNat)
        case atStart => exact ⟨0, Nat.zero_le _, rfl, by omega, hj4, c24, hr4, h8c⟩
        case round =>
          obtain ⟨j, hjp, rfl, hs5, hj5, c25, hr5, h85⟩ := hrel
          clear hj4 c24 hr4 h8c
          by_cases hjl : j < 8
          · obtain ⟨x, hx⟩ : ∃ x, (eight c).getD j 0 = x := ⟨_, rfl⟩
            have hxc := h85.out j (by omega)
            rw [hx] at hxc
            have hgx : xs.getD (8 * k + j) 0 = x := by rw [HG.out k j hlt (by omega) (by omega), HC.out, hx]
            have hpl : 8 * k + j < xs.length := by rw [HL.out]; omega
            have hsp := take_split xs (8 * k + j) hpl
            have hnx := take_next xs (8 * k + j) hpl
            rw [hgx] at hsp hnx
            obtain ⟨fn, tmps, assign, body, hy, hR⟩ := HY.out (xs.take (8 * k + j)) x (xs.drop (8 * k + j + 1)) wr hsp hj5
            rw [hnx] at hR
            have HN := Lib.hid hnx
            have j0 : (0 : Int) ≤ j := Int.natCast_nonneg _
            have j1 : (j : Int) < 8 := by omega
            clear hx hgx hpl hsp hnx
            gi_wp2
            refine hR.mono ?_
            rintro e W3 ⟨hh, (⟨rfl, hJ3⟩ | ⟨rfl, hJx3⟩)⟩
            · have c26 := hh.cell (.inr (.inl rfl)) c25
              have hr6 : Hid (∀ i, i < n → W3.cell? ⟨rb, ro + i, none⟩ = some (.int .u8 (zs.getD i 0))) := Lib.hid fun i hi => hh.cell (.inr (.inr (.inl rfl))) (hr5.out i hi)
              have h86 : Hid (∀ i, i < 8 → W3.cell? ⟨q, i, none⟩ = some (.int .i64 ((eight c).getD i 0))) := Lib.hid fun i hi => hh.cell (.inr (.inr (.inr (by omega)))) (h85.out i hi)
              have hs6 := hh.size
              clear hR hy c25 hr5 h85 hxc
              gi_wp2
              go_roundw
              case rel => exact ⟨j + 1, by omega, by go_num, by omega, hJ3, c26, hr6, h86⟩
              case measure => simp [intOf]; omega
            · gi_wp2
              refine bodyPost_ret (results_none rfl _ _ _) rfl ?_
              exact ⟨⟨_, rfl⟩, .inr ⟨xs.take (8 * k + j + 1), List.take_prefix _ _, hJx3⟩⟩
          · obtain rfl : j = 8 := by omega
            clear h85
            gi_wp2
            go_roundw
            case rel => exact ⟨k + 1, by omega, by go_num, by omega, by rw [show 8 * (k + 1) = 8 * k + 8 by omega]; exact hj5, c25, hr5⟩
            case measure => simp [intOf]; omega
      · obtain ⟨p, hp⟩ : ∃ p, W - 8 * k = p := ⟨_, rfl⟩
        have hpz : (W : Int) - 8 * k = p := by omega
        have p1 : 1 ≤ p := by omega
        have p8 : p < 8 := by omega
        have hmn : min (8 : Int) ((W : Int) - 8 * (k : Int)) = (p : Int) := by omega
        have hmn2 : min (8 : Int) (p : Int) = (p : Int) := by omega
        have hsl : ∀ b w', (Instr.sliceAt 273 (.pointer (some ⟨b, 0, none⟩)) none (some (.int .i64 (p : Int))) none).run Tryz.prog w' = .ok (.slice (some ⟨b, 0, none⟩) p 8) w' := by
          intro b w'
          obtain rfl | rfl | rfl | rfl | rfl | rfl | rfl : p = 1 ∨ p = 2 ∨ p = 3 ∨ p = 4 ∨ p = 5 ∨ p = 6 ∨ p = 7 := by omega
          all_goals kernel_rfl
        gi_wp2_with (refine ⟨trivial, ?_⟩; gi_at_call 218; refine (callsIn_wide.2 (split_any c c0 c1 _)).mono ?_; rintro e w3 ⟨rfl, hb⟩; have hB := Lib.hid hb; have c23 := cell_later hb c2; have hs3 := hb.size; have nb3 := block_lt_of_cell c23; clear hb)
        obtain ⟨q, hq⟩ : ∃ q, w3.heap.size = q := ⟨_, rfl⟩
        obtain ⟨w4, h4⟩ : ∃ w4, w3.alloc (.cells #[.int .i64 (c / 128 % 2), .int .i64 (c / 64 % 2), .int .i64 (c / 32 % 2), .int .i64 (c / 16 % 2), .int .i64 (c / 8 % 2), .int .i64 (c / 4 % 2), .int .i64 (c / 2 % 2), .int .i64 (c % 2)] 273) = w4 := ⟨_, rfl⟩
        have hbel : Below wr.heap.size wr w4 := by rw [← h4]; exact hB.out.alloc (by omega) _
        have hs4 : w4.heap.size = q + 1 := by rw [← h4, World.size_alloc, hq]
        have h8c : Hid (∀ i, i < 8 → w4.cell? ⟨q, i, none⟩ = some (.int .i64 ((eight c).getD i 0))) := Lib.hid fun i hi => by
          rw [← h4, ← hq, World.cell?_alloc_at _ _ _ _ rfl]
          obtain rfl | rfl | rfl | rfl | rfl | rfl | rfl | rfl : i = 0 ∨ i = 1 ∨ i = 2 ∨ i = 3 ∨ i = 4 ∨ i = 5 ∨ i = 6 ∨ i = 7 := by omega
          all_goals rfl
        have c24 := cell_later hbel c2
        have hr4 : Hid (∀ i, i < n → w4.cell? ⟨rb, ro + i, none⟩ = some (.int .u8 (zs.getD i 0))) := Lib.hid fun i hi => cell_later hbel (hrr.out i hi)
        have hj4 : J (xs.take (8 * k)) w4 := hJ _ _ _ hj (sep_below hbel)
        have hq4 : W0.heap.size + 2 ≤ q := by omega
        rw [h4, hq]
        clear h4 hB hbel c23 nb3 hcc hrr hj c2
        clear hq hs3
        gi_loopw [25] (fun i wr' => ∃ j : Nat, j ≤ p ∧ i = .int .i64 j ∧ q + 1 ≤ wr'.heap.size ∧ J (xs.take (8 * k + j)) wr' ∧ wr'.cell? ⟨bb, 0, none⟩ = some (.int .i64 W) ∧ Hid (∀ i, i < n → wr'.cell? ⟨rb, ro + i, none⟩ = some (.int .u8 (zs.getD i 0))) ∧ Hid (∀ i, i < 8 → wr'.cell? ⟨q, i, none⟩ = some (.int .i64 ((eight c).getD i 0)))) (fun i _ => p - (intOf i).toNat)
        case atStart => exact ⟨0, Nat.zero_le _, rfl, by omega, hj4, c24, hr4, h8c⟩
        case round =>
          obtain ⟨j, hjp, rfl, hs5, hj5, c25, hr5, h85⟩ := hrel
          clear hj4 c24 hr4 h8c
          by_cases hjl : j < p
          · obtain ⟨x, hx⟩ : ∃ x, (eight c).getD j 0 = x := ⟨_, rfl⟩
            have hxc := h85.out j (by omega)
            rw [hx] at hxc
            have hgx : xs.getD (8 * k + j) 0 = x := by rw [HG.out k j hlt (by omega) (by omega), HC.out, hx]
            have hpl : 8 * k + j < xs.length := by rw [HL.out]; omega
            have hsp := take_split xs (8 * k + j) hpl
            have hnx := take_next xs (8 * k + j) hpl
            rw [hgx] at hsp hnx
            obtain ⟨fn, tmps, assign, body, hy, hR⟩ := HY.out (xs.take (8 * k + j)) x (xs.drop (8 * k + j + 1)) wr hsp hj5
            rw [hnx] at hR
            have HN := Lib.hid hnx
            have j0 : (0 : Int) ≤ j := Int.natCast_nonneg _
            have j1 : (j : Int) < p := by omega
            clear hx hgx hpl hsp hnx
            gi_wp2
            refine hR.mono ?_
            rintro e W3 ⟨hh, (⟨rfl, hJ3⟩ | ⟨rfl, hJx3⟩)⟩
            · have c26 := hh.cell (.inr (.inl rfl)) c25
              have hr6 : Hid (∀ i, i < n → W3.cell? ⟨rb, ro + i, none⟩ = some (.int .u8 (zs.getD i 0))) := Lib.hid fun i hi => hh.cell (.inr (.inr (.inl rfl))) (hr5.out i hi)
              have h86 : Hid (∀ i, i < 8 → W3.cell? ⟨q, i, none⟩ = some (.int .i64 ((eight c).getD i 0))) := Lib.hid fun i hi => hh.cell (.inr (.inr (.inr (by omega)))) (h85.out i hi)
              have hs6 := hh.size
              clear hR hy c25 hr5 h85 hxc
              gi_wp2
              go_roundw
              case rel => exact ⟨j + 1, by omega, by go_num, by omega, hJ3, c26, hr6, h86⟩
              case measure => simp [intOf]; omega
            · gi_wp2
              refine bodyPost_ret (results_none rfl _ _ _) rfl ?_
              exact ⟨⟨_, rfl⟩, .inr ⟨xs.take (8 * k + j + 1), List.take_prefix _ _, hJx3⟩⟩
          · obtain rfl : p = j := by omega
            clear h85
            gi_wp2
            go_roundw
            case rel => exact ⟨k + 1, by omega, by go_num, by omega, by rw [List.take_of_length_le (by rw [HL.out]; omega)] at hj5 ⊢; exact hj5, c25, hr5⟩
            case measure => simp [intOf]; omega
    · obtain rfl : k = n := by omega
      gi_wp2
      go_end0
      exact ⟨⟨_, rfl⟩, .inl (by rw [List.take_of_length_le (by rw [HL.out]; omega)] at hj; exact hj)⟩
end Bt
end Go.Proofs.YtkjkepnailamnaaGreat
namespace Go.Proofs.YtkjkepnailamnaaGreat
open Go.RowKit Go.Shelf
attribute [local go_sem] Oper.semAt_some
set_option linter.unusedVariables false
namespace Bt
theorem rowOf_no (a : Option Addr) (len cap : Nat) (W : Int) (hl : len ≤ 9223372036854775807) (h : rowE len W ≠ 0) (w : World) :
    Calls Tryz.prog 208 #[.slice a len cap, .int .i64 W] w fun e w' => e = .returned (.tuple #[.slice none 0 0, .int .i64 (rowE len W)]) ∧ w = w' := by
  obtain ⟨n, hn⟩ : ∃ n, bytesV W = n := ⟨_, rfl⟩
  have HN := Lib.hid hn
  unfold rowE at h ⊢
  rw [hn] at h ⊢
  clear hn
  by_cases h0 : n = 0
  · have h0b : (n == 0) = true := by simpa using h0
    have X := Lib.hid (show (1 : Int) = (if n = 0 then 1 else if (len : Int) < n then 6 else 0) by rw [if_pos h0])
    rw [← X.out]
    clear h
    go_enter Tryz.func208, Tryz.ntmps208
    go_wp2_with (first | (go_at_call 199; refine (bytes_any _ _).mono ?_; rw [HN.out]; rintro e w1 ⟨rfl, rfl⟩))
    go_ret2
    exact ⟨rfl, rfl⟩
  · have h0b : (n == 0) = false := by simpa using h0
    by_cases h1 : (len : Int) < n
    · have X := Lib.hid (show (6 : Int) = (if n = 0 then 1 else if (len : Int) < n then 6 else 0) by rw [if_neg h0, if_pos h1])
      rw [← X.out]
      clear h
      go_enter Tryz.func208, Tryz.ntmps208
      go_wp2_with (first | (go_at_call 199; refine (bytes_any _ _).mono ?_; rw [HN.out]; rintro e w1 ⟨rfl, rfl⟩))
      go_ret2
      exact ⟨rfl, rfl⟩
    · rw [if_neg h0, if_neg h1] at h
      exact absurd rfl h
theorem rowOf_yes (b o : Nat) (len cap n : Nat) (W : Int) (hl : len ≤ cap) (hc : cap ≤ 9223372036854775807) (hn : bytesV W = n) (h1 : 1 ≤ n) (h2 : n ≤ len) (w : World) :
    Calls Tryz.prog 208 #[.slice (some ⟨b, o, none⟩) len cap, .int .i64 W] w fun e w' => e = .returned (.tuple #[.slice (some ⟨b, o, none⟩) n cap, .int .i64 0]) ∧ w = w' := by
  have HN := Lib.hid hn; clear hn
  have h0b : ((n : Int) == 0) = false := by simp; omega
  have h3 : ¬ (len : Int) < n := by omega
  have h4 : ¬ len < n := by omega
  go_enter Tryz.func208, Tryz.ntmps208
  go_wp2_with (first | (go_at_call 199; refine (bytes_any _ _).mono ?_; rw [HN.out]; rintro e w1 ⟨rfl, rfl⟩))
  go_ret2
  exact ⟨rfl, rfl⟩
theorem ownsRow_same {A B : World} {base size n cap g : Nat} {e : TypeId} {xs : List Value} (h : A.ownsRow base e size (.slice (some ⟨g, 0, none⟩) n cap) n xs) (hb : B.heap[g]? = A.heap[g]?) : B.ownsRow base e size (.slice (some ⟨g, 0, none⟩) n cap) n xs := by
  obtain ⟨h1, h2⟩ := h
  refine ⟨h1, ?_⟩
  rcases h2 with ⟨h2, _⟩ | ⟨g', cap', cur, h2, hg, hc, r⟩
  · cases h2
  · cases h2
    exact .inr ⟨g, cap, cur, rfl, hg, hb.trans hc, r⟩
theorem ownsRow_blk {A : World} {base size n cap g : Nat} {e : TypeId} {xs : List Value} (h : A.ownsRow base e size (.slice (some ⟨g, 0, none⟩) n cap) n xs) : base ≤ g ∧ g < A.heap.size := h.lt g rfl
theorem fitted {W w1 : World} {base B g : Nat} {t e : TypeId} {k m cap : Nat} {xs ys : List Value} {tmp : Obj}
    (hv : Boxed W B t (.slice (some ⟨g, 0, none⟩) k cap)) (hte : t ≠ e) (hrow : W.ownsRow base e 1 (.slice (some ⟨g, 0, none⟩) k cap) k xs) (hown' : w1.ownsRow base e 1 (.slice (some ⟨g, 0, none⟩) m cap) m ys) (hgrow : (W.alloc tmp).grownBy w1 (some g)) :
    Boxed w1 B t (.slice (some ⟨g, 0, none⟩) k cap) ∧ Boxed (w1.setCell ⟨B, 0, none⟩ (.slice (some ⟨g, 0, none⟩) m cap)) B t (.slice (some ⟨g, 0, none⟩) m cap) ∧ (w1.setCell ⟨B, 0, none⟩ (.slice (some ⟨g, 0, none⟩) m cap)).ownsRow base e 1 (.slice (some ⟨g, 0, none⟩) m cap) m ys ∧
    (∀ Z : Nat → Prop, ¬ Z B → ¬ Z g → Hold Z W (w1.setCell ⟨B, 0, none⟩ (.slice (some ⟨g, 0, none⟩) m cap))) ∧
    (∀ m', m' ≤ B → m' ≤ base → m' ≤ W.heap.size → Below m' W (w1.setCell ⟨B, 0, none⟩ (.slice (some ⟨g, 0, none⟩) m cap))) := by
  have hb : base ≤ g := (ownsRow_blk hrow).1
  have hne : some B ≠ some g := hv.not_row hte hrow
  have hv1 : Boxed w1 B t (.slice (some ⟨g, 0, none⟩) k cap) := (hv.alloc tmp).kept hgrow hne
  refine ⟨hv1, hv1.set _, hown'.kept (grownBy_setCell' w1 B _) (.inr (hv1.not_row hte hown').symm), fun Z hz hzg => ?_, fun m' h1 h2 h3 => ?_⟩
  · exact ((Hold.alloc Z W tmp).trans (.grown hgrow fun j ej => by cases ej; exact hzg)).trans (.setCell _ hz _)
  · exact (((Below.refl m' W).alloc h3 tmp).grown hgrow (by simp; omega) fun j ej => by cases ej; exact Nat.le_trans h2 hb).setCell (p := ⟨B, 0, none⟩) h1 _
def UnpR (xs : List Int) (er : Int) (w : World) (e : Ending) (w' : World) : Prop :=
  ∃ ad cap, e = .returned (.tuple #[.slice ad xs.length cap, .int .i64 er]) ∧ w'.ownsRow w.heap.size 3 1 (.slice ad xs.length cap) xs.length (xs.map (Value.int .i64)) ∧ Below w.heap.size w w'
theorem Tryz.info_int : (Tryz.prog.info? 3).map (fun i => (i.zero, i.size, i.bytes)) = some (some (.int .i64 0), 1, 8) := by kernel_rfl
set_option maxRecDepth 100000 in
theorem unpack_no (a : Option Addr) (len cap : Nat) (W : Int) (hl : len ≤ 9223372036854775807) (h : rowE len W ≠ 0) (w : World) :
    Calls Tryz.prog 194 #[.slice a len cap, .int .i64 W] w fun e w' => e = .returned (.tuple #[.slice none 0 0, .int .i64 (rowE len W)]) ∧ w = w' := by
  have hk : (rowE len W != 0) = true := by simpa using h
  have H := Lib.hid h; clear h
  obtain ⟨r, hr⟩ : ∃ r, rowE len W = r := ⟨_, rfl⟩
  have HR := Lib.hid hr
  rw [hr] at hk ⊢
  clear hr
  refine calls_of_marks Tryz.func194 rfl ?_
  simp only [Tryz.ntmps194, List.size_toArray, List.length_cons, List.length_nil, Nat.reduceAdd, Nat.reduceSub, Array.replicate_succ, Array.replicate_zero, List.push_toArray, List.append_toArray, List.nil_append, List.cons_append]
  go_wp2_with (first | (go_at_call 208; refine (rowOf_no _ _ _ _ hl H.out _).mono ?_; rw [HR.out]; rintro e w1 ⟨rfl, rfl⟩))
  exact ⟨_, results_tmp2 rfl _ _ _, rfl, rfl⟩
set_option maxRecDepth 100000 in
set_option maxHeartbeats 2000000 in
theorem unpack_yes (zs : List Int) (b o len cap n W : Nat) (hzs : zs.length = n) (hby : ∀ z ∈ zs, 0 ≤ z ∧ z ≤ 255) (hl : len ≤ cap) (hc : cap ≤ 9223372036854775807) (hn : bytesV W = n) (h1 : 1 ≤ n) (h2 : n ≤ len) (hn2 : n ≤ 4096) (hW1 : W ≤ 8 * n) (hW2 : 8 * n < W + 8) (w : World)
    (hr : ∀ i, i < n → w.cell? ⟨b, o + i, none⟩ = some (.int .u8 (zs.getD i 0))) :
    Calls Tryz.prog 194 #[.slice (some ⟨b, o, none⟩) len cap, .int .i64 W] w (UnpR ((bitsOf zs).take W) 0 w) := by
  obtain ⟨i0, hi, hz0, hz1, hz2⟩ := info_parts Tryz.info_int
  have HR := Lib.hid hr; clear hr
  have HN := Lib.hid hn; clear hn
  have W0 : (0 : Int) ≤ W := Int.natCast_nonneg _
  refine calls_of_marks Tryz.func194 rfl ?_
  simp only [Tryz.ntmps194, List.size_toArray, List.length_cons, List.length_nil, Nat.reduceAdd, Nat.reduceSub, Array.replicate_succ, Array.replicate_zero, List.push_toArray, List.append_toArray, List.nil_append, List.cons_append]
  go_wp2_with (first
    | (go_at_call 208; refine (rowOf_yes _ _ _ _ n _ hl hc HN.out h1 h2 _).mono ?_; rintro e w1 ⟨rfl, rfl⟩)
    | (at_make; refine wpList_make_own _ rfl _ _ 25 rfl w.heap.size 3 i0 (.int .i64 0) 1 Tryz.underlying25 hi hz0 hz1 .i64 .i64 (W : Int) W rfl rfl rfl (by rw [hz2]; omega) (by unfold maxLen; omega) (Nat.le_refl _) ?_; intro w1 hown hgrow; have hb1 : Below w.heap.size w w1 := (Below.refl _ w).grown hgrow (Nat.le_refl _) (by simp); have HO := Lib.hid hown; clear hown)
    | (go_at_call 209; refine (pixels_made _ _ _ _ _).mono ?_; rintro e w2 ⟨nb, bb, rfl, hne, l1, l2, cn, cb, hb⟩))
  simp only [World.size_alloc] at l1 l2
  have hbw : b < w.heap.size := by have := HR.out 0 (by omega); exact block_lt_of_cell this
  have hs1 := hb1.size
  have hs2 := hb.size
  have ln : nb < w2.heap.size := block_lt_of_cell cn
  have lb : bb < w2.heap.size := block_lt_of_cell cb
  have hg1 : w.heap.size < w1.heap.size := (ownsRow_blk HO.out).2
  obtain ⟨B, hB⟩ : ∃ B, w1.heap.size = B := ⟨_, rfl⟩
  have hv0 : Boxed w2 B 25 (.slice (some ⟨w.heap.size, 0, none⟩) 0 W) := by rw [← hB]; exact (hb.block _ (by simp)).trans (Boxed.new w1 _ _)
  have hr0 : w2.ownsRow w.heap.size 3 1 (.slice (some ⟨w.heap.size, 0, none⟩) 0 W) 0 [] := ownsRow_same (HO.out.alloc _) (hb.block _ (by simp; omega))
  have hbel : Below w.heap.size w w2 := (hb1.alloc (by omega) _).trans (hb.mono (by simp; omega))
  have hrow2 : ∀ i, i < n → w2.cell? ⟨b, o + i, none⟩ = some (.int .u8 (zs.getD i 0)) := fun i hi => cell_later hbel (HR.out i hi)
  rw [hB]
  rw [hB] at l1 l2 hg1
  simp only [World.size_alloc, hB] at hs2
  have hzB : ¬ (Zp nb bb b w2 B ∨ B = w2.heap.size ∨ B = w2.heap.size + 1) := by unfold Zp; omega
  have hyB : ¬ (Zs nb bb w2 B ∨ B = w2.heap.size ∨ B = w2.heap.size + 1) := by unfold Zs; omega
  have hzg : ¬ (Zp nb bb b w2 w.heap.size ∨ w.heap.size = w2.heap.size ∨ w.heap.size = w2.heap.size + 1) := by unfold Zp; omega
  have hyg : ¬ (Zs nb bb w2 w.heap.size ∨ w.heap.size = w2.heap.size ∨ w.heap.size = w2.heap.size + 1) := by unfold Zs; omega
  have hxl : ((bitsOf zs).take W).length = W := by rw [List.length_take, bitsOf_len]; omega
  have hGV := pixels_gives zs n W cap b o nb bb hzs hby h1 hn2 hW1 hW2 (by omega) w2 2 (by omega) cn cb hrow2
  obtain ⟨xs, hxs⟩ : ∃ xs, (bitsOf zs).take W = xs := ⟨_, rfl⟩
  rw [hxs] at hxl hGV
  have HX := Lib.hid hxs
  clear hb hB hb1 HO cn cb hxs hrow2
  refine range_wpN (gf := 217) (lb := #[.pointer (some ⟨nb, 0, none⟩), .pointer (some ⟨bb, 0, none⟩)]) rfl (enters_of Tryz.func217 (by kernel_rfl) rfl)
    hGV (by intro k; unfold Zp Zs; omega) (by unfold Zp; omega) (by unfold Zp; omega) (fun _ => rfl)
    (fun pre W' => Boxed W' B 25 (.slice (some ⟨w.heap.size, 0, none⟩) pre.length W) ∧ W'.ownsRow w.heap.size 3 1 (.slice (some ⟨w.heap.size, 0, none⟩) pre.length W) pre.length (pre.map (Value.int .i64)) ∧ Below w.heap.size w W')
    (fun _ _ _ => False) ?hI (fun _ _ _ _ hh _ => hh) ⟨hv0, hr0, hbel⟩ ?_ ?assign ?body ?done ?stop
  case hI =>
    rintro p A B' ⟨h1, h2, h4⟩ hs
    refine ⟨boxed_sep h1 hs hyB, ownsRow_same h2 (hs.block _ (ownsRow_blk h2).2 hyg), ?_⟩
    exact h4.trans (hs.below h4.size (by intro k hk; unfold Zs; omega))
  case assign =>
    intro l x W K hK
    gi_wp2
    exact hK
  case body =>
    rintro l pre x rest W' hx hlt ⟨hv, hrow, hB⟩
    have hp : pre.length + 1 ≤ W := by have := congrArg List.length hx; simp at this; omega
    clear hx hv0 hr0
    have hW := hB.size
    have hvc := hv.cell
    gi_wp2_with (gi_at_builtin; refine wpListIn_append_fits _ rfl _ _ 25 rfl w.heap.size 3 i0 1 Tryz.underlying25 hi hz1 w.heap.size pre.length W _ rfl (hrow.alloc _) ⟨W'.heap.size, 0, none⟩ 1 1 [.int .i64 x] rfl rfl (cell_one_new _ _ _) (by simp [Value.oneCell']) hp ?_; intro w5 hown' hgrow'; obtain ⟨hv1, hv2, hr2, hh2, hb2⟩ := fitted hv (by decide) hrow hown' hgrow'; have hc1 := hv1.cell; have hf1 := hv1.frozen)
    exact ⟨hh2 _ hzB hzg, by simpa using hv2, by simpa using hr2, hB.trans (hb2 _ (by omega) (Nat.le_refl _) hW)⟩
  case done =>
    rintro W' ⟨hv, hrow, hB⟩ hK
    have hvc := hv.cell
    rw [hxl] at hrow hvc
    clear hv0 hr0 hv
    go_wp2
    refine ret_mark hK (results_tmp2 rfl _ _ _) ?_
    have hlK : w2.heap.size < W'.heap.size := (Array.getElem?_eq_some_iff.1 hK).1
    rw [HX.out]
    refine ⟨some ⟨w.heap.size, 0, none⟩, W, by rw [hxl]; rfl, ?_, Below.putObj hB (by omega) _⟩
    rw [hxl]
    exact ownsRow_same hrow (World.putObj_heap_other (by omega))
  case stop =>
    rintro c pre W _ hh _
    exact hh.elim
end Bt
end Go.Proofs.YtkjkepnailamnaaGreat
namespace Go.Proofs.YtkjkepnailamnaaGreat
open Go.RowKit Go.Shelf
attribute [local go_sem] Oper.semAt_some
set_option linter.unusedVariables false
namespace Bt
def Bs (w : World) (a : Option Addr) (len cap : Nat) (zs : List Int) : Prop := SlK .u8 w a len zs ∧ len ≤ cap ∧ cap ≤ 9223372036854775807 ∧ ∀ z ∈ zs, 0 ≤ z ∧ z ≤ 255
theorem Bs.below {w w' : World} {a : Option Addr} {len cap : Nat} {zs : List Int} (h : Bs w a len cap zs) (hb : Below w.heap.size w w') : Bs w' a len cap zs := ⟨h.1.below hb, h.2⟩
theorem bytesV_pos {n : Nat} {W : Int} (h : rowE n W = 0) : ∃ N P : Nat, W = P ∧ bytesV W = N ∧ 1 ≤ N ∧ N ≤ n ∧ N ≤ 4096 ∧ P ≤ 8 * N ∧ 8 * N < P + 8 := by
  unfold rowE at h
  by_cases h0 : bytesV W = 0
  · rw [if_pos h0] at h; cases h
  · rw [if_neg h0] at h
    by_cases h1 : (n : Int) < bytesV W
    · rw [if_pos h1] at h; cases h
    · unfold bytesV at h0 h1 ⊢
      by_cases h2 : W < 1 ∨ 4096 < W
      · rw [if_pos h2] at h0; exact absurd rfl h0
      · rw [if_neg h2] at h1 ⊢
        exact ⟨((W + 7) / 8).toNat, W.toNat, by omega, by omega, by omega, by omega, by omega, by omega, by omega⟩
theorem bits_cut (zs : List Int) (N W : Nat) (hW : W ≤ 8 * N) : (bitsOf (zs.take N)).take W = (bitsOf zs).take W := by
  by_cases h : zs.length ≤ N
  · rw [List.take_of_length_le h]
  · conv => rhs; rw [← List.take_append_drop N zs, bitsOf_append]
    rw [List.take_append_of_le_length (by rw [bitsOf_len, List.length_take]; omega)]
theorem row_of {w : World} {a : Option Addr} {len cap : Nat} {zs : List Int} (h : Bs w a len cap zs) {N : Nat} (h1 : 1 ≤ N) (h2 : N ≤ len) :
    ∃ b o, a = some ⟨b, o, none⟩ ∧ (zs.take N).length = N ∧ (∀ z ∈ zs.take N, 0 ≤ z ∧ z ≤ 255) ∧ ∀ i, i < N → w.cell? ⟨b, o + i, none⟩ = some (.int .u8 ((zs.take N).getD i 0)) := by
  obtain ⟨⟨hl, hs⟩, hc, hm, hby⟩ := h
  rcases hs with h0 | ⟨b, o, rfl, hs⟩
  · omega
  · refine ⟨b, o, rfl, by rw [List.length_take]; omega, fun z hz => hby z (List.mem_of_mem_take hz), fun i hi => ?_⟩
    rw [hs i (by omega), List.getD_eq_getElem?_getD, List.getD_eq_getElem?_getD, List.getElem?_take_of_lt hi]
theorem unpack_any (a : Option Addr) (len cap : Nat) (zs : List Int) (W : Int) (w : World) (h : Bs w a len cap zs) :
    Calls Tryz.prog 194 #[.slice a len cap, .int .i64 W] w (UnpR (unpackV zs W) (rowE len W) w) := by
  have hl : zs.length = len := h.1.1
  by_cases h0 : rowE len W = 0
  · obtain ⟨N, P, rfl, hN, h1, h2, h3, h4, h5⟩ := bytesV_pos h0
    obtain ⟨b, o, rfl, k1, k2, k3⟩ := row_of h h1 h2
    have := unpack_yes (zs.take N) b o len cap N P k1 k2 h.2.1 h.2.2.1 hN h1 h2 h3 h4 h5 w k3
    rw [bits_cut zs N P h4] at this
    unfold unpackV
    rw [hl, if_pos h0, h0]
    exact this
  · refine (unpack_no a len cap W (by have := h.2; omega) h0 w).mono ?_
    rintro e w' ⟨rfl, rfl⟩
    unfold unpackV
    rw [hl, if_neg h0]
    exact ⟨none, 0, rfl, World.ownsRow_nil _ _ _ _, Below.refl _ _⟩
end Bt
end Go.Proofs.YtkjkepnailamnaaGreat
namespace Go.Proofs.YtkjkepnailamnaaGreat
open Go.RowKit Go.Shelf
set_option linter.unusedVariables false
namespace Bt
def bitV (zs : List Int) (i : Int) : Int := if i < 0 then -1 else if zs.length ≤ i / 8 then -1 else (bitsOf zs).getD i.toNat 0
theorem bitV_in {zs : List Int} {k j : Nat} (hk : k < zs.length) (hj : j < 8) {i : Int} (hi : i = 8 * k + j) : bitV zs i = (eight (zs.getD k 0)).getD j 0 := by
  unfold bitV
  rw [if_neg (by omega), if_neg (by omega), show i.toNat = 8 * k + j by omega, bitsOf_get zs k j hk hj]
set_option maxRecDepth 100000 in
set_option maxHeartbeats 2000000 in
theorem refBit_yes (c i : Int) (b o len cap k j : Nat) (hi : i = 8 * k + j) (hj : j < 8) (hk : k < len) (hlc : len ≤ 9223372036854775807) (c0 : 0 ≤ c) (c1 : c ≤ 255) (hi9 : i ≤ 9223372036854775807) (w : World) (hc : w.cell? ⟨b, o + k, none⟩ = some (.int .u8 c)) :
    Calls Tryz.prog 180 #[.slice (some ⟨b, o, none⟩) len cap, .int .i64 i] w fun e w' => e = .returned (.int .i64 ((eight c).getD j 0)) ∧ w = w' := by
  have hq : i / 8 = k := by omega
  have hr : i % 8 = j := by omega
  have hi0 : 0 ≤ i := by omega
  have hk1 : (k : Int) < len := by omega
  have hk0 : (0 : Int) ≤ k := Int.natCast_nonneg _
  have hn1 : ¬ (len : Int) ≤ k := by omega
  have hn2 : ¬ len ≤ k := by omega
  clear hi
  obtain rfl | rfl | rfl | rfl | rfl | rfl | rfl | rfl : j = 0 ∨ j = 1 ∨ j = 2 ∨ j = 3 ∨ j = 4 ∨ j = 5 ∨ j = 6 ∨ j = 7 := by omega
  · rw [show (((0 : Nat)) : Int) = 0 from rfl] at hr
    rw [show (eight c).getD 0 0 = c / 128 % 2 from rfl]
    go_enter Tryz.func180, Tryz.ntmps180
    go_wp2
    go_rounds 8
    go_ret
    exact ⟨ret_i (by omega), rfl⟩
  · rw [show (((1 : Nat)) : Int) = 1 from rfl] at hr
    rw [show (eight c).getD 1 0 = c / 64 % 2 from rfl]
    go_enter Tryz.func180, Tryz.ntmps180
    go_wp2
    go_rounds 7
    go_ret
    exact ⟨ret_i (by omega), rfl⟩
  · rw [show (((2 : Nat)) : Int) = 2 from rfl] at hr
    rw [show (eight c).getD 2 0 = c / 32 % 2 from rfl]
    go_enter Tryz.func180, Tryz.ntmps180
    go_wp2
    go_rounds 6
    go_ret
    exact ⟨ret_i (by omega), rfl⟩
  · rw [show (((3 : Nat)) : Int) = 3 from rfl] at hr
    rw [show (eight c).getD 3 0 = c / 16 % 2 from rfl]
    go_enter Tryz.func180, Tryz.ntmps180
    go_wp2
    go_rounds 5
    go_ret
    exact ⟨ret_i (by omega), rfl⟩
  · rw [show (((4 : Nat)) : Int) = 4 from rfl] at hr
    rw [show (eight c).getD 4 0 = c / 8 % 2 from rfl]
    go_enter Tryz.func180, Tryz.ntmps180
    go_wp2
    go_rounds 4
    go_ret
    exact ⟨ret_i (by omega), rfl⟩
  · rw [show (((5 : Nat)) : Int) = 5 from rfl] at hr
    rw [show (eight c).getD 5 0 = c / 4 % 2 from rfl]
    go_enter Tryz.func180, Tryz.ntmps180
    go_wp2
    go_rounds 3
    go_ret
    exact ⟨ret_i (by omega), rfl⟩
  · rw [show (((6 : Nat)) : Int) = 6 from rfl] at hr
    rw [show (eight c).getD 6 0 = c / 2 % 2 from rfl]
    go_enter Tryz.func180, Tryz.ntmps180
    go_wp2
    go_rounds 2
    go_ret
    exact ⟨ret_i (by omega), rfl⟩
  · rw [show (((7 : Nat)) : Int) = 7 from rfl] at hr
    rw [show (eight c).getD 7 0 = c % 2 from rfl]
    go_enter Tryz.func180, Tryz.ntmps180
    go_wp2
    go_rounds 1
    go_ret
    exact ⟨ret_i (by omega), rfl⟩
theorem refBit_no (a : Option Addr) (i : Int) (len cap : Nat) (hl : len ≤ 9223372036854775807) (h9 : -9223372036854775808 ≤ i ∧ i ≤ 9223372036854775807) (h : i < 0 ∨ (len : Int) ≤ i / 8) (w : World) :
    Calls Tryz.prog 180 #[.slice a len cap, .int .i64 i] w fun e w' => e = .returned (.int .i64 (-1)) ∧ w = w' := by
  obtain ⟨h8, h9⟩ := h9
  by_cases h0 : i < 0
  · clear h
    go_enter Tryz.func180, Tryz.ntmps180
    go_wp2
    go_ret
    exact ⟨rfl, rfl⟩
  · have h1 : (len : Int) ≤ i / 8 := by omega
    have h2 : 0 ≤ i := by omega
    clear h
    go_enter Tryz.func180, Tryz.ntmps180
    go_wp2
    go_ret
    exact ⟨rfl, rfl⟩
theorem place (i : Int) (len : Nat) (h0 : ¬ i < 0) (h1 : ¬ (len : Int) ≤ i / 8) : ∃ k j : Nat, i = 8 * k + j ∧ j < 8 ∧ k < len :=
  ⟨(i / 8).toNat, (i % 8).toNat, by omega, by omega, by omega⟩
theorem refBit_any (a : Option Addr) (len cap : Nat) (zs : List Int) (i : Int) (h9 : -9223372036854775808 ≤ i ∧ i ≤ 9223372036854775807) (w : World) (h : Bs w a len cap zs) :
    Calls Tryz.prog 180 #[.slice a len cap, .int .i64 i] w fun e w' => e = .returned (.int .i64 (bitV zs i)) ∧ w = w' := by
  obtain ⟨⟨hl, hs⟩, hc, hm, hby⟩ := h
  by_cases h0 : i < 0
  · unfold bitV
    rw [if_pos h0]
    exact refBit_no a i len cap (by omega) h9 (.inl h0) w
  · by_cases h1 : (len : Int) ≤ i / 8
    · unfold bitV
      rw [if_neg h0, hl, if_pos h1]
      exact refBit_no a i len cap (by omega) h9 (.inr h1) w
    · obtain ⟨k, j, e1, e2, e3⟩ := place i len h0 h1
      rcases hs with hs | ⟨b, o, rfl, hs⟩
      · omega
      · have hz := hby (zs.getD k 0) (by rw [List.getD_eq_getElem?_getD, List.getElem?_eq_getElem (by omega)]; exact List.getElem_mem _)
        rw [bitV_in (by omega) e2 e1]
        exact refBit_yes (zs.getD k 0) i b o len cap k j e1 e2 e3 (by omega) hz.1 hz.2 h9.2 w (hs k e3)
end Bt
end Go.Proofs.YtkjkepnailamnaaGreat
namespace Go.Proofs.YtkjkepnailamnaaGreat
open Go.RowKit Go.Shelf
set_option linter.unusedVariables false
namespace Bt
theorem refUnpack_no (a : Option Addr) (len cap : Nat) (W : Int) (hl : len ≤ 9223372036854775807) (h : rowE len W ≠ 0) (w : World) :
    Calls Tryz.prog 144 #[.slice a len cap, .int .i64 W] w fun e w' => e = .returned (.tuple #[.slice none 0 0, .int .i64 (rowE len W)]) ∧ w = w' := by
  obtain ⟨n, hn⟩ : ∃ n, bytesV W = n := ⟨_, rfl⟩
  have HN := Lib.hid hn
  unfold rowE at h ⊢
  rw [hn] at h ⊢
  clear hn
  by_cases h0 : n = 0
  · have h0b : (n == 0) = true := by simpa using h0
    have X := Lib.hid (show (1 : Int) = (if n = 0 then 1 else if (len : Int) < n then 6 else 0) by rw [if_pos h0])
    rw [← X.out]
    clear h
    go_enter Tryz.func144, Tryz.ntmps144
    go_wp2_with (first | (go_at_call 179; refine (refBytes_any _ _).mono ?_; rw [HN.out]; rintro e w1 ⟨rfl, rfl⟩))
    go_ret2
    exact ⟨rfl, rfl⟩
  · have h0b : (n == 0) = false := by simpa using h0
    by_cases h1 : (len : Int) < n
    · have X := Lib.hid (show (6 : Int) = (if n = 0 then 1 else if (len : Int) < n then 6 else 0) by rw [if_neg h0, if_pos h1])
      rw [← X.out]
      clear h
      go_enter Tryz.func144, Tryz.ntmps144
      go_wp2_with (first | (go_at_call 179; refine (refBytes_any _ _).mono ?_; rw [HN.out]; rintro e w1 ⟨rfl, rfl⟩))
      go_ret2
      exact ⟨rfl, rfl⟩
    · rw [if_neg h0, if_neg h1] at h
      exact absurd rfl h
theorem bitV_nat {zs : List Int} {i : Nat} (h : i < 8 * zs.length) : bitV zs i = (bitsOf zs).getD i 0 := by
  unfold bitV
  rw [if_neg (by omega), if_neg (by omega)]; rfl
theorem take_push (l : List Int) (k : Nat) (h : k < l.length) : (l.take k).map (Value.int .i64) ++ [.int .i64 (l.getD k 0)] = (l.take (k + 1)).map (Value.int .i64) := by
  rw [← take_next l k h]; simp
set_option maxRecDepth 100000 in
set_option maxHeartbeats 2000000 in
theorem refUnpack_yes (a : Option Addr) (len cap : Nat) (zs : List Int) (n W : Nat) (w : World) (h : Bs w a len cap zs) (hn : bytesV W = n) (h1 : 1 ≤ n) (h2 : n ≤ len) (hn2 : n ≤ 4096) (hW1 : W ≤ 8 * n) :
    Calls Tryz.prog 144 #[.slice a len cap, .int .i64 W] w (UnpR ((bitsOf zs).take W) 0 w) := by
  obtain ⟨i0, hi, hz0, hz1, hz2⟩ := info_parts Tryz.info_int
  have hl : zs.length = len := h.1.1
  have hl9 : len ≤ 9223372036854775807 := by have := h.2; omega
  have HN := Lib.hid hn; clear hn
  have h0b : ((n : Int) == 0) = false := by simp; omega
  have h3 : ¬ (len : Int) < n := by omega
  have h4 : ¬ len < n := by omega
  have W0 : (0 : Int) ≤ W := Int.natCast_nonneg _
  obtain ⟨xs, hxs⟩ : ∃ xs, (bitsOf zs).take W = xs := ⟨_, rfl⟩
  have hxl : xs.length = W := by rw [← hxs, List.length_take, bitsOf_len]; omega
  have hget : ∀ k, k < W → bitV zs k = xs.getD k 0 := fun k hk => by
    rw [bitV_nat (by omega), ← hxs, List.getD_eq_getElem?_getD, List.getD_eq_getElem?_getD, List.getElem?_take_of_lt hk]
  have HB := Lib.hid h; clear h
  have HG := Lib.hid hget; clear hget
  have HL := Lib.hid hxl; clear hxl
  rw [hxs]
  have HZ := Lib.hid hl; clear hl hxs
  go_enter Tryz.func144, Tryz.ntmps144
  go_wp2_with (first | (go_at_call 179; refine (refBytes_any _ _).mono ?_; rw [HN.out]; rintro e w1 ⟨rfl, rfl⟩))
  go_loopg [7, 8] W (fun g s7 s8 wr => ∃ k : Nat, k + g = W ∧ s8 = .int .i64 k ∧ wr.ownsRow w.heap.size 3 1 s7 k ((xs.take k).map (Value.int .i64)) ∧ Below w.heap.size w wr)
  case atStart => exact ⟨0, by omega, rfl, World.ownsRow_nil _ _ _ _, Below.refl _ _⟩
  case round =>
    obtain ⟨k, hk, rfl, hrow, hB⟩ := hrel
    cases gk with
    | zero =>
      obtain rfl : k = W := by omega
      obtain ⟨ad, cap', rfl, hown, hcap⟩ := ownK_row (by rw [List.length_take, HL.out]; omega) hrow
      have hrow' := Lib.hid hrow; clear hrow
      go_wp2
      go_ret2
      refine ⟨ad, cap', by rw [HL.out]; rfl, ?_, hB⟩
      have := hrow'.out
      rw [List.take_of_length_le (by rw [HL.out]; omega)] at this
      rw [HL.out]
      exact this
    | succ g =>
      have hlt : (k : Int) < W := by omega
      have k0 : (0 : Int) ≤ k := Int.natCast_nonneg _
      have hW := hB.size
      obtain ⟨x, hx⟩ : ∃ x, xs.getD k 0 = x := ⟨_, rfl⟩
      have hbx : bitV zs k = x := by rw [HG.out k (by omega)]; exact hx
      have hpu := take_push xs k (by rw [HL.out]; omega)
      rw [hx] at hpu
      have HP := Lib.hid hpu
      have HX := Lib.hid hbx
      clear hpu hbx hx
      have HR := Lib.hid hrow; clear hrow
      go_wp2_with (first
        | (go_at_call 180; refine (refBit_any _ _ _ zs _ (by omega) _ (HB.out.below hB)).mono ?_; rw [HX.out]; rintro e w5 ⟨rfl, rfl⟩)
        | (at_builtin; refine wpList_append_own _ rfl _ _ 25 rfl w.heap.size 3 i0 (.int .i64 0) 1 8 Tryz.underlying25 hi hz0 hz1 hz2 rfl (by decide) _ k _ rfl (HR.out.alloc _) ⟨wr.heap.size, 0, none⟩ 1 1 [.int .i64 x] rfl rfl (cell_one_new _ _ _) (by simp [Value.oneCell']) (by unfold maxLen; omega) (by omega) (by simp; omega) ?_; intro v' w4 hown' hgrow _; have HO := Lib.hid hown'; have hB4 := ((hB.alloc hW _).grown hgrow (by simp; omega) (fun j ej => (HR.out.lt j ej).1)); clear hown' hgrow))
      go_roundg g
      case measure => omega
      case rel =>
        have := HO.out
        rw [HP.out] at this
        exact ⟨k + 1, by omega, by go_num, this, hB4⟩
theorem refUnpack_any (a : Option Addr) (len cap : Nat) (zs : List Int) (W : Int) (w : World) (h : Bs w a len cap zs) :
    Calls Tryz.prog 144 #[.slice a len cap, .int .i64 W] w (UnpR (unpackV zs W) (rowE len W) w) := by
  have hl : zs.length = len := h.1.1
  by_cases h0 : rowE len W = 0
  · obtain ⟨N, P, rfl, hN, h1, h2, h3, h4, h5⟩ := bytesV_pos h0
    have := refUnpack_yes a len cap zs N P w h hN h1 h2 h3 h4
    unfold unpackV
    rw [hl, if_pos h0, h0]
    exact this
  · refine (refUnpack_no a len cap W (by have := h.2; omega) h0 w).mono ?_
    rintro e w' ⟨rfl, rfl⟩
    unfold unpackV
    rw [hl, if_neg h0]
    exact ⟨none, 0, rfl, World.ownsRow_nil _ _ _ _, Below.refl _ _⟩
end Bt
end Go.Proofs.YtkjkepnailamnaaGreat
namespace Go.Proofs.YtkjkepnailamnaaGreat
open Go.RowKit Go.Shelf
set_option linter.unusedVariables false
namespace Bt
def LsR (xs : List Int) (w : World) (e : Ending) (w' : World) : Prop :=
  ∃ ad cap, e = .returned (.slice ad xs.length cap) ∧ w'.ownsRow w.heap.size 3 1 (.slice ad xs.length cap) xs.length (xs.map (Value.int .i64)) ∧ Below w.heap.size w w'
theorem getD_mem (l : List Int) (k : Nat) (h : k < l.length) : l.getD k 0 ∈ l := by
  rw [List.getD_eq_getElem?_getD, List.getElem?_eq_getElem h]; exact List.getElem_mem _
end Bt
end Go.Proofs.YtkjkepnailamnaaGreat
namespace Go.Proofs.YtkjkepnailamnaaGreat
open Go.RowKit
set_option linter.unusedVariables false
theorem Im.bytes_below (w : World) (e : TypeId) (s : ByteArray) : Below w.heap.size w (Lib.bytesWorld w e s) :=
  ⟨by simp [Lib.bytesWorld, World.freeze, World.alloc, World.drew, -World.alloc_eq, -World.drew_eq], by simp [Lib.bytesWorld, World.freeze, World.alloc, World.drew, -World.alloc_eq, -World.drew_eq], by simp [Lib.bytesWorld, World.freeze, World.alloc, World.drew, -World.alloc_eq, -World.drew_eq], by rw [Lib.bytesWorld_size]; omega, fun k hk => Lib.bytesWorld_at_old w e s k hk⟩
theorem Im.bytes_get (s : ByteArray) (i : Nat) : (bytesOf s).getD i 0 = ((s.data.toList.getD i 0).toNat : Int) := by
  unfold bytesOf
  rw [List.getD_eq_getElem?_getD, List.getD_eq_getElem?_getD, List.getElem?_map]
  cases s.data.toList[i]? <;> rfl
end Go.Proofs.YtkjkepnailamnaaGreat
namespace Go.Proofs.YtkjkepnailamnaaGreat
open Go.RowKit
set_option linter.unusedVariables false
namespace Sm
def Alike (x y : List Int) (k : Nat) : Prop := ∀ i, i < k → x.getD i 0 = y.getD i 0
theorem alike_all {x y : List Int} {n : Nat} (hx : x.length = n) (hy : y.length = n) (h : Alike x y n) : x = y := by
  refine List.ext_getElem (by rw [hx, hy]) fun i h1 h2 => ?_
  have := h i (by omega)
  rw [List.getD_eq_getElem?_getD, List.getD_eq_getElem?_getD, List.getElem?_eq_getElem h1, List.getElem?_eq_getElem h2] at this
  simpa using this
theorem alike_succ {x y : List Int} {k : Nat} (h : Alike x y k) (e : x.getD k 0 = y.getD k 0) : Alike x y (k + 1) := fun i hi => by
  rcases Nat.lt_or_ge i k with h1 | h1
  · exact h i h1
  · obtain rfl : i = k := by omega
    exact e
end Sm
end Go.Proofs.YtkjkepnailamnaaGreat
namespace Go.Proofs.YtkjkepnailamnaaGreat
open Go.RowKit Go.Shelf
set_option linter.unusedVariables false
namespace Bt
theorem num_bound : ∀ (l : List Int) (n : Int), (∀ x ∈ l, x = 0 ∨ x = 1) → 0 ≤ n → 0 ≤ num l n ∧ num l n + 1 ≤ (n + 1) * 2 ^ l.length
  | [], n, _, h => by simp [num, h]
  | x :: l, n, hx, h => by
    have h1 := hx x (by simp)
    have h2 := num_bound l (n * 2 + x) (fun y hy => hx y (by simp [hy])) (by omega)
    refine ⟨h2.1, Int.le_trans h2.2 ?_⟩
    rw [List.length_cons, Int.pow_succ, ← Int.mul_assoc, Int.mul_right_comm]
    exact Int.mul_le_mul_of_nonneg_right (by omega) (by exact Int.pow_nonneg (by omega))
end Bt
end Go.Proofs.YtkjkepnailamnaaGreat
namespace Go.Proofs.YtkjkepnailamnaaGreat
open Go.RowKit Go.Shelf
attribute [local go_sem] Oper.semAt_some
set_option linter.unusedVariables false
namespace Bt
def oddB (x : Int) : Bool := decide (x ≠ 0) && decide (x ≠ 1)
theorem odd_any (x : Int) (w : World) : Calls Tryz.prog 198 #[.int .i64 x] w fun e w' => e = .returned (.bool (oddB x)) ∧ w = w' := by
  by_cases h0 : x = 0
  · subst h0
    go_enter Tryz.func198, Tryz.ntmps198
    go_wp2
    go_ret
    exact ⟨rfl, rfl⟩
  · by_cases h1 : x = 1
    · subst h1
      go_enter Tryz.func198, Tryz.ntmps198
      go_wp2
      go_ret
      exact ⟨rfl, rfl⟩
    · have k0 : (x != 0) = true := by simpa using h0
      have k1 : (x != 1) = true := by simpa using h1
      have X := Lib.hid (show true = oddB x by simp [oddB, h0, h1])
      rw [← X.out]
      go_enter Tryz.func198, Tryz.ntmps198
      go_wp2
      go_ret
      exact ⟨rfl, rfl⟩
theorem odd_iff (x : Int) : oddB x = false ↔ (x = 0 ∨ x = 1) := by unfold oddB; simp; omega
def IdxR (ok : Bool) (w : World) (e : Ending) (w' : World) : Prop := ∃ r : Int, e = .returned (.int .i64 r) ∧ (0 ≤ r ↔ ok = false) ∧ -1 ≤ r ∧ w = w'
set_option maxRecDepth 100000 in
set_option maxHeartbeats 2000000 in
theorem index_any (a : Option Addr) (n cap : Nat) (l : List Int) (w : World) (hn : n ≤ 9223372036854775807) (h : SlK .i64 w a n l) :
    Calls Tryz.prog 210 #[.slice a n cap, .func (.func 198) #[] #[]] w (IdxR (decide (Ones l)) w) := by
  obtain ⟨hl, hs⟩ := h
  have HL := Lib.hid hl; clear hl
  have HS := Lib.hid hs; clear hs
  go_enter Tryz.func210, Tryz.ntmps210
  go_wp2
  go_loopg [8] n (fun g s8 wr => ∃ k : Nat, k + g = n ∧ s8 = .int .i64 k ∧ Hid (Ones (l.take k)) ∧ wr = w)
  case atStart => exact ⟨0, by omega, rfl, Lib.hid (by intro x hx; simp at hx), rfl⟩
  case round =>
    obtain ⟨k, hk, rfl, ho, rfl⟩ := hrel
    cases gk with
    | zero =>
      obtain rfl : k = n := by omega
      have X := Lib.hid (show decide (Ones l) = true by rw [decide_eq_true_iff]; have := ho.out; rwa [List.take_of_length_le (by rw [HL.out]; omega)] at this)
      clear ho
      go_wp2
      go_ret
      exact ⟨-1, rfl, by rw [X.out]; simp, by omega, rfl⟩
    | succ g =>
      have hlt : (k : Int) < n := by omega
      have k0 : (0 : Int) ≤ k := Int.natCast_nonneg _
      rcases HS.out with h0 | ⟨b, o, rfl, hc⟩
      · omega
      have hc := hc k (by omega)
      obtain ⟨x, hx⟩ : ∃ x, l.getD k 0 = x := ⟨_, rfl⟩
      rw [hx] at hc
      have HX := Lib.hid hx; clear hx
      cases hq : oddB x
      · have HQ := Lib.hid hq; clear hq
        go_wp2_with (go_at_call 198; refine (odd_any _ _).mono ?_; rw [HQ.out]; rintro e w1 ⟨rfl, rfl⟩)
        go_roundg g
        case measure => omega
        case rel =>
          refine ⟨k + 1, by omega, by go_num, Lib.hid ?_, rfl⟩
          rw [← take_next l k (by rw [HL.out]; omega), HX.out]
          intro y hy
          rcases List.mem_append.1 hy with hy | hy
          · exact ho.out y hy
          · obtain rfl : y = x := by simpa using hy
            exact (odd_iff y).1 HQ.out
      · have HQ := Lib.hid hq; clear hq
        have X := Lib.hid (show decide (Ones l) = false by
          rw [decide_eq_false_iff_not]; intro e
          have := (odd_iff x).2 (e x (by rw [← HX.out, List.getD_eq_getElem?_getD, List.getElem?_eq_getElem (by rw [HL.out]; omega)]; exact List.getElem_mem _))
          rw [HQ.out] at this; cases this)
        go_wp2_with (go_at_call 198; refine (odd_any _ _).mono ?_; rw [HQ.out]; rintro e w1 ⟨rfl, rfl⟩)
        go_ret
        exact ⟨k, rfl, by rw [X.out]; simp, by omega, rfl⟩
theorem contains_any (a : Option Addr) (n cap : Nat) (l : List Int) (w : World) (hn : n ≤ 9223372036854775807) (h : SlK .i64 w a n l) :
    Calls Tryz.prog 200 #[.slice a n cap, .func (.func 198) #[] #[]] w fun e w' => e = .returned (.bool (!decide (Ones l))) ∧ w = w' := by
  have H := Lib.hid (index_any a n cap l w hn h)
  clear h
  cases ho : decide (Ones l)
  · rw [ho] at H
    go_enter Tryz.func200, Tryz.ntmps200
    go_wp2_with (go_at_call 210; refine H.out.mono ?_; rintro e w1 ⟨r, rfl, hr, h1, rfl⟩; replace hr := hr.2 rfl)
    go_ret
    exact ⟨rfl, rfl⟩
  · rw [ho] at H
    go_enter Tryz.func200, Tryz.ntmps200
    go_wp2_with (go_at_call 210; refine H.out.mono ?_; rintro e w1 ⟨r, rfl, hr, h1, rfl⟩; obtain rfl : r = -1 := (by by_cases h : 0 ≤ r; (have := hr.1 h; cases this); omega); clear hr)
    go_ret
    exact ⟨rfl, rfl⟩
def MadeC (v : Value) (w : World) (e : Ending) (w' : World) : Prop :=
  ∃ nb bb, e = .returned (.func (.func 211) #[] #[.pointer (some ⟨nb, 0, none⟩), .pointer (some ⟨bb, 0, none⟩)]) ∧ nb ≠ bb ∧ w.heap.size ≤ nb ∧ w.heap.size ≤ bb ∧
    w'.cell? ⟨nb, 0, none⟩ = some v ∧ w'.cell? ⟨bb, 0, none⟩ = some (.int .i64 8) ∧ Below w.heap.size w w'
theorem chunk_made (a : Option Addr) (len cap : Nat) (w : World) : Calls Tryz.prog 201 #[.slice a len cap, .int .i64 8] w (MadeC (.slice a len cap) w) := by
  go_enter Tryz.func201, Tryz.ntmps201
  go_wp2
  go_ret
  exact ⟨_, _, rfl, by omega, by omega, by omega, by simp [go_sem], by simp [go_sem], by go_grown⟩
def partLen (n k : Nat) : Nat := min 8 (n - 8 * k)
def encC (b o n : Nat) (k : Nat) : Array Value := #[.slice (some ⟨b, o + 8 * k, none⟩) (partLen n k) (partLen n k)]
theorem rng_get (m k : Nat) (h : k < m) : List.range m = (List.range m).take k ++ k :: (List.range m).drop (k + 1) := by
  conv => lhs; rw [← List.take_append_drop k (List.range m), List.drop_eq_getElem_cons (by simpa using h)]
  simp
theorem rng_next (m k : Nat) (h : k < m) : (List.range m).take k ++ [k] = (List.range m).take (k + 1) := by
  rw [List.take_succ_eq_append_getElem (by simpa using h)]; simp
set_option maxRecDepth 100000 in
set_option maxHeartbeats 2000000 in
theorem chunk_gives (n m cap b o nb bb : Nat) (hn : 1 ≤ n) (hm1 : n ≤ 8 * m) (hm2 : 8 * m < n + 8) (hnc : n ≤ cap) (hc : cap ≤ 9223372036854775807) (h9 : n ≤ 4096) (hne : nb ≠ bb) (W0 : World) (q : Nat) (hq : 1 ≤ q)
    (cn : W0.cell? ⟨nb, 0, none⟩ = some (.slice (some ⟨b, o, none⟩) n cap)) (cb : W0.cell? ⟨bb, 0, none⟩ = some (.int .i64 8)) :
    Gives Fence.wide q Tryz.prog 211 #[.pointer (some ⟨nb, 0, none⟩), .pointer (some ⟨bb, 0, none⟩)] (encC b o n) (fun k => k = nb ∨ k = bb) (List.range m) W0 := by
  intro l J Jx W hW hJ hJx hY h00
  have cn1 := hW.cell (.inl rfl) cn
  have cb1 := hW.cell (.inr rfl) cb
  clear cn cb hW
  have HY := Lib.hid hY; clear hY
  refine callsIn_of_wp Tryz.func211 rfl trivial ?_ rfl
  simp only [Tryz.ntmps211, List.size_toArray, List.length_cons, List.length_nil, Nat.reduceAdd, Nat.reduceSub, Array.replicate_succ, Array.replicate_zero, List.push_toArray, List.append_toArray, List.nil_append, List.cons_append]
  gi_wp2
  gi_loopw [4] (fun i wr => ∃ k : Nat, k ≤ m ∧ i = .int .i64 (8 * (k : Int)) ∧ J ((List.range m).take k) wr ∧ wr.cell? ⟨nb, 0, none⟩ = some (.slice (some ⟨b, o, none⟩) n cap) ∧ wr.cell? ⟨bb, 0, none⟩ = some (.int .i64 8)) (fun i _ => (8 * (m : Int) - intOf i).toNat)
  case atStart => exact ⟨0, Nat.zero_le _, rfl, by simpa using h00, cn1, cb1⟩
  case round =>
    obtain ⟨k, hk, rfl, hj, c1, c2⟩ := hrel
    clear cn1 cb1 h00
    by_cases hlt : k < m
    · have hi0 : 8 * (k : Int) < n := by omega
      have hi1 : (0 : Int) ≤ k := Int.natCast_nonneg _
      have hi2 : (k : Int) ≤ 512 := by omega
      obtain ⟨I, hI⟩ : ∃ I : Nat, 8 * k = I := ⟨_, rfl⟩
      have hI2 : 8 * (k : Int) = (I : Int) := by omega
      rw [hI2] at hi0 ⊢
      have hic : ¬ cap = I := by omega
      have hi3 : (0 : Int) ≤ I := Int.natCast_nonneg _
      have HI := Lib.hid hI; have HI2 := Lib.hid hI2
      by_cases h8 : I + 8 ≤ n
      · skip
        have hpl : partLen n k = 8 := by unfold partLen; omega
        have hy0 := HY.out _ _ _ wr.drew (rng_get m k hlt) (hJ _ _ _ hj (.drew _ _))
        have HNX := Lib.hid (rng_next m k hlt)
        rw [show encC b o n k = #[.slice (some ⟨b, o + I, none⟩) 8 8] by unfold encC; rw [hpl, hI]] at hy0
        obtain ⟨fn, tmps, assign, body, hy, hR⟩ := hy0
        have d1 : wr.drew.cell? ⟨nb, 0, none⟩ = some (.slice (some ⟨b, o, none⟩) n cap) := c1
        have d2 : wr.drew.cell? ⟨bb, 0, none⟩ = some (.int .i64 8) := c2
        clear hpl hI hI2
        have hmn : min (8 : Int) ((n - I : Nat) : Int) = 8 := by omega
        gi_wp2
        gi_region
        gi_wp2
        refine hR.mono ?_
        rintro e W3 ⟨hh, (⟨rfl, hJ3⟩ | ⟨rfl, hJx3⟩)⟩
        · have c13 := hh.cell (.inl rfl) d1
          have c23 := hh.cell (.inr rfl) d2
          clear hR hy c1 c2 d1 d2
          gi_wp2
          go_roundw
          case rel => exact ⟨k + 1, by omega, by have := HI2.out; go_num, by rw [← HNX.out]; exact hJ3, c13, c23⟩
          case measure => have := HI2.out; simp [intOf]; omega
        · gi_wp2
          refine bodyPost_ret (results_none rfl _ _ _) rfl ?_
          exact ⟨⟨_, rfl⟩, .inr ⟨_, by rw [HNX.out]; exact List.take_prefix _ _, hJx3⟩⟩
      · obtain ⟨p, hp⟩ : ∃ p, n - I = p := ⟨_, rfl⟩
        have p1 : 1 ≤ p := by omega
        have p8 : p < 8 := by omega
        have hpl : partLen n k = p := by unfold partLen; omega
        have hy0 := HY.out _ _ _ wr.drew (rng_get m k hlt) (hJ _ _ _ hj (.drew _ _))
        have HNX := Lib.hid (rng_next m k hlt)
        rw [show encC b o n k = #[.slice (some ⟨b, o + I, none⟩) p p] by unfold encC; rw [hpl, hI]] at hy0
        obtain ⟨fn, tmps, assign, body, hy, hR⟩ := hy0
        have d1 : wr.drew.cell? ⟨nb, 0, none⟩ = some (.slice (some ⟨b, o, none⟩) n cap) := c1
        have d2 : wr.drew.cell? ⟨bb, 0, none⟩ = some (.int .i64 8) := c2
        clear hpl hI hI2
        have hmn : min (8 : Int) ((n - I : Nat) : Int) = (p : Int) := by omega
        have hmn2 : min (8 : Int) (p : Int) = (p : Int) := by omega
        gi_wp2
        gi_region
        gi_wp2
        refine hR.mono ?_
        rintro e W3 ⟨hh, (⟨rfl, hJ3⟩ | ⟨rfl, hJx3⟩)⟩
        · have c13 := hh.cell (.inl rfl) d1
          have c23 := hh.cell (.inr rfl) d2
          clear hR hy c1 c2 d1 d2
          gi_wp2
          go_roundw
          case rel => exact ⟨k + 1, by omega, by have := HI2.out; go_num, by rw [← HNX.out]; exact hJ3, c13, c23⟩
          case measure => have := HI2.out; simp [intOf]; omega
        · gi_wp2
          refine bodyPost_ret (results_none rfl _ _ _) rfl ?_
          exact ⟨⟨_, rfl⟩, .inr ⟨_, by rw [HNX.out]; exact List.take_prefix _ _, hJx3⟩⟩
    · obtain rfl : k = m := by omega
      have hi0 : ¬ 8 * (k : Int) < n := by omega
      gi_wp2
      go_end0
      exact ⟨⟨_, rfl⟩, .inl (by rw [List.take_of_length_le (by simp)] at hj; exact hj)⟩
end Bt
end Go.Proofs.YtkjkepnailamnaaGreat
namespace Go.Proofs.YtkjkepnailamnaaGreat
open Go.RowKit
set_option linter.unusedVariables false
namespace Bt
theorem or1 (n x : Int) (h : 0 ≤ n) (h2 : n ≤ 127) (a : 0 ≤ x) (b : x ≤ 1) : Go.bits BinOp.or IntKind.u8 (n * 2) x = n * 2 + x := by
  obtain ⟨n, rfl⟩ : ∃ m : Nat, n = m := ⟨n.toNat, by omega⟩
  obtain ⟨x, rfl⟩ : ∃ m : Nat, x = m := ⟨x.toNat, by omega⟩
  have := u8_or_nat (n * 2) x (by omega) (by omega)
  rw [Int.natCast_mul] at this
  rw [show ((2 : Nat) : Int) = 2 from rfl] at this
  rw [this]
  have e : n * 2 ||| x = n * 2 + x := by
    rw [show n * 2 = 2 ^ 1 * n by omega]
    exact (Nat.two_pow_add_eq_or_of_lt (i := 1) (by omega) n).symm
  rw [e]; omega
set_option maxRecDepth 100000 in
theorem join_any (x7 x6 x5 x4 x3 x2 x1 x0 : Int) (a7 : 0 ≤ x7) (b7 : x7 ≤ 1) (a6 : 0 ≤ x6) (b6 : x6 ≤ 1) (a5 : 0 ≤ x5) (b5 : x5 ≤ 1) (a4 : 0 ≤ x4) (b4 : x4 ≤ 1) (a3 : 0 ≤ x3) (b3 : x3 ≤ 1) (a2 : 0 ≤ x2) (b2 : x2 ≤ 1) (a1 : 0 ≤ x1) (b1 : x1 ≤ 1) (a0 : 0 ≤ x0) (b0 : x0 ≤ 1) (w : World) :
    Calls Tryz.prog 202 #[.agg #[.int .i64 x7, .int .i64 x6, .int .i64 x5, .int .i64 x4, .int .i64 x3, .int .i64 x2, .int .i64 x1, .int .i64 x0]] w fun e w' => e = .returned (.int .u8 (num [x7, x6, x5, x4, x3, x2, x1, x0] 0)) ∧ Below w.heap.size w w' := by
  have N : ∀ n m x : Int, 0 ≤ n → n ≤ m → 0 ≤ x → x ≤ 1 → m ≤ 127 → ∃ r, Go.bits BinOp.or IntKind.u8 (n * 2) x = r ∧ 0 ≤ r ∧ r ≤ m * 2 + 1 ∧ Hid (n * 2 + x = r) := fun n m x h k a b c => ⟨n * 2 + x, or1 n x h (by omega) a b, by omega, by omega, Lib.hid rfl⟩
  have i0 : ∀ w, (Instr.index 273 (.agg #[.int .i64 x7, .int .i64 x6, .int .i64 x5, .int .i64 x4, .int .i64 x3, .int .i64 x2, .int .i64 x1, .int .i64 x0]) (.int .i64 0)).run Tryz.prog w = .ok (.int .i64 x7) w := fun _ => by kernel_rfl
  have i1 : ∀ w, (Instr.index 273 (.agg #[.int .i64 x7, .int .i64 x6, .int .i64 x5, .int .i64 x4, .int .i64 x3, .int .i64 x2, .int .i64 x1, .int .i64 x0]) (.int .i64 1)).run Tryz.prog w = .ok (.int .i64 x6) w := fun _ => by kernel_rfl
  have i2 : ∀ w, (Instr.index 273 (.agg #[.int .i64 x7, .int .i64 x6, .int .i64 x5, .int .i64 x4, .int .i64 x3, .int .i64 x2, .int .i64 x1, .int .i64 x0]) (.int .i64 2)).run Tryz.prog w = .ok (.int .i64 x5) w := fun _ => by kernel_rfl
  have i3 : ∀ w, (Instr.index 273 (.agg #[.int .i64 x7, .int .i64 x6, .int .i64 x5, .int .i64 x4, .int .i64 x3, .int .i64 x2, .int .i64 x1, .int .i64 x0]) (.int .i64 3)).run Tryz.prog w = .ok (.int .i64 x4) w := fun _ => by kernel_rfl
  have i4 : ∀ w, (Instr.index 273 (.agg #[.int .i64 x7, .int .i64 x6, .int .i64 x5, .int .i64 x4, .int .i64 x3, .int .i64 x2, .int .i64 x1, .int .i64 x0]) (.int .i64 4)).run Tryz.prog w = .ok (.int .i64 x3) w := fun _ => by kernel_rfl
  have i5 : ∀ w, (Instr.index 273 (.agg #[.int .i64 x7, .int .i64 x6, .int .i64 x5, .int .i64 x4, .int .i64 x3, .int .i64 x2, .int .i64 x1, .int .i64 x0]) (.int .i64 5)).run Tryz.prog w = .ok (.int .i64 x2) w := fun _ => by kernel_rfl
  have i6 : ∀ w, (Instr.index 273 (.agg #[.int .i64 x7, .int .i64 x6, .int .i64 x5, .int .i64 x4, .int .i64 x3, .int .i64 x2, .int .i64 x1, .int .i64 x0]) (.int .i64 6)).run Tryz.prog w = .ok (.int .i64 x1) w := fun _ => by kernel_rfl
  have i7 : ∀ w, (Instr.index 273 (.agg #[.int .i64 x7, .int .i64 x6, .int .i64 x5, .int .i64 x4, .int .i64 x3, .int .i64 x2, .int .i64 x1, .int .i64 x0]) (.int .i64 7)).run Tryz.prog w = .ok (.int .i64 x0) w := fun _ => by kernel_rfl
  obtain ⟨n1, e1, l1, u1, H1⟩ := N 0 0 x7 (by omega) (by omega) a7 b7 (by omega)
  rw [Int.zero_mul] at e1
  obtain ⟨n2, e2, l2, u2, H2⟩ := N n1 1 x6 (by omega) (by omega) a6 b6 (by omega)
  obtain ⟨n3, e3, l3, u3, H3⟩ := N n2 3 x5 (by omega) (by omega) a5 b5 (by omega)
  obtain ⟨n4, e4, l4, u4, H4⟩ := N n3 7 x4 (by omega) (by omega) a4 b4 (by omega)
  obtain ⟨n5, e5, l5, u5, H5⟩ := N n4 15 x3 (by omega) (by omega) a3 b3 (by omega)
  obtain ⟨n6, e6, l6, u6, H6⟩ := N n5 31 x2 (by omega) (by omega) a2 b2 (by omega)
  obtain ⟨n7, e7, l7, u7, H7⟩ := N n6 63 x1 (by omega) (by omega) a1 b1 (by omega)
  obtain ⟨n8, e8, l8, u8, H8⟩ := N n7 127 x0 (by omega) (by omega) a0 b0 (by omega)
  have X := Lib.hid (show n8 = num [x7, x6, x5, x4, x3, x2, x1, x0] 0 by simp only [num]; rw [H1.out, H2.out, H3.out, H4.out, H5.out, H6.out, H7.out, H8.out])
  clear N
  go_enter Tryz.func202, Tryz.ntmps202
  go_wp2
  go_rounds 9
  go_ret
  exact ⟨ret_i X.out, by go_grown⟩
end Bt
end Go.Proofs.YtkjkepnailamnaaGreat
namespace Go.Proofs.YtkjkepnailamnaaGreat
open Go.RowKit Go.Shelf
attribute [local go_sem] Oper.semAt_some
set_option linter.unusedVariables false
theorem wpListIn_copy_row {F : Fence} {n : Nat} {P : Program} {w : World} {ops : Array Oper} {rest : List Oper} {o : Oper} {a : Act} {Q : Exit → Act → World → Prop} (hgd : o.guard = none) (d s : Operand) (dT sT : TypeId)
    (ho : o.op = .call { callee := .builtin .copy, args := #[d, s], argTypes := #[dT, sT] }) (elem : TypeId) (hu : P.underlying dT = some (.slice elem)) (hsz : (P.info? elem).map (·.size) = some 1)
    (g off dLen dCap : Nat) (ad : Addr) (sLen sCap : Nat) (hd : a.eval d = .slice (some ⟨g, off, none⟩) dLen dCap) (hs : a.eval s = .slice (some ad) sLen sCap)
    (cur : Array Value) (t : TypeId) (hg : w.heap[g]? = some (.cells cur t (0, 0))) (cs : List Value) (hn : cs.length = Nat.min sLen dLen)
    (hsrc : ∀ j v, cs[j]? = some v → w.cell? (ad.add j) = some v) (hfit : off + cs.length ≤ cur.size) (h1 : ∀ v ∈ cs, v.oneCell' = true)
    (h : ∀ v9, wpListIn F n P ops Q rest (a.put o.dst v9) (w.setRow g (cur.toList.take off ++ cs ++ cur.toList.drop (off + cs.length)).toArray)) : wpListIn F n P ops Q (o :: rest) a w := by
  refine wpListIn_plain hgd fun K hK => ?_
  have hrun := run_copy_row (P := P) w dT sT o.type elem g off dLen dCap ad sLen sCap cur t cs hu hsz hg hn hsrc hfit h1
  unfold Oper.wpIn
  refine ⟨?_, ?_⟩
  · simp [Oper.about, ho, resolve, Target.leads, Sem.run_pure]
  · rw [Oper.semAt_plain F _ _ (by rw [ho]; intro c hc'; cases hc')]
    simp [execOp, ho, resolve, invoke, builtin, hd, hs, hrun, Result.andThen]
    exact hK _ _ (by simpa using h (goInt cs.length))
namespace Bt
theorem pack_len0 (l : List Int) : packOk l = false ↔ (bytesV l.length = 0 ∨ decide (Ones l) = false) := by
  unfold packOk bytesV
  by_cases h : Ones l
  · simp [h]; omega
  · simp [h]
set_option maxRecDepth 100000 in
theorem pack_no (a : Option Addr) (n cap : Nat) (l : List Int) (w : World) (hn : n ≤ 9223372036854775807) (h : SlK .i64 w a n l) (hp : packOk l = false) :
    Calls Tryz.prog 186 #[.slice a n cap] w fun e w' => e = .returned (.tuple #[.slice none 0 0, .int .i64 1]) ∧ w = w' := by
  have hl : l.length = n := h.1
  have HC := Lib.hid (contains_any a n cap l w hn h)
  clear h
  rw [pack_len0, hl] at hp
  by_cases h0 : bytesV n = 0
  · have HN := Lib.hid h0
    clear hp h0
    refine calls_of_marks Tryz.func186 rfl ?_
    simp only [Tryz.ntmps186, List.size_toArray, List.length_cons, List.length_nil, Nat.reduceAdd, Nat.reduceSub, Array.replicate_succ, Array.replicate_zero, List.push_toArray, List.append_toArray, List.nil_append, List.cons_append]
    go_wp2_with (go_at_call 199; refine (bytes_any _ _).mono ?_; rw [HN.out]; rintro e w1 ⟨rfl, rfl⟩)
    exact ⟨_, results_tmp2 rfl _ _ _, rfl, rfl⟩
  · obtain ⟨r, hr⟩ : ∃ r, bytesV n = r := ⟨_, rfl⟩
    rw [hr] at h0 hp
    have hrb : (r == 0) = false := by simpa using h0
    have HN := Lib.hid hr
    have HO := Lib.hid (hp.resolve_left h0)
    clear hp h0 hr
    refine calls_of_marks Tryz.func186 rfl ?_
    simp only [Tryz.ntmps186, List.size_toArray, List.length_cons, List.length_nil, Nat.reduceAdd, Nat.reduceSub, Array.replicate_succ, Array.replicate_zero, List.push_toArray, List.append_toArray, List.nil_append, List.cons_append]
    go_wp2_with (first
      | (go_at_call 199; refine (bytes_any _ _).mono ?_; rw [HN.out]; rintro e w1 ⟨rfl, rfl⟩)
      | (go_at_call 200; refine HC.out.mono ?_; rw [HO.out]; rintro e w1 ⟨rfl, rfl⟩))
    exact ⟨_, results_tmp2 rfl _ _ _, rfl, rfl⟩
theorem ownsRow_room {A : World} {base n cap g k : Nat} {e : TypeId} {xs : List Value} (h : A.ownsRow base e 1 (.slice (some ⟨g, 0, none⟩) n cap) n xs) (hk : k < cap) : ∃ v, A.cell? ⟨g, k, none⟩ = some v ∧ A.frozen? ⟨g, k, none⟩ = false := by
  rcases h.2 with ⟨h2, _⟩ | ⟨g', cap', cur, h2, hg, hc, _, _, hs, _⟩
  · cases h2
  · cases h2
    exact ⟨cur[k]'(by omega), by simp [World.cell?, hc, Array.getElem?_eq_getElem (show k < cur.size by omega)], by simp [World.frozen?, hc]⟩
theorem ownsRow_push {A : World} {base n cap g : Nat} {e : TypeId} {xs : List Value} (h : A.ownsRow base e 1 (.slice (some ⟨g, 0, none⟩) n cap) n xs) (hn : n < cap) (v : Value) :
    (A.setCell ⟨g, n, none⟩ v).ownsRow base e 1 (.slice (some ⟨g, 0, none⟩) (n + 1) cap) (n + 1) (xs ++ [v]) := by
  obtain ⟨h1, h2⟩ := h
  rcases h2 with ⟨h2, _⟩ | ⟨g', cap', cur, h2, hg, hc, hle, hm, hs, ht⟩
  · cases h2
  · cases h2
    refine ⟨by simp at h1 ⊢; exact h1, .inr ⟨g, cap, cur.setIfInBounds n v, rfl, hg, ?_, hn, hm, by simpa using hs, ?_⟩⟩
    · rw [setCell_eq_setRow A g n cur e (0, 0) v hc]; exact setRow_heap _ _ _ _ _ _ hc
    · have hlt : n < cur.toList.length := by simp; omega
      simp only [Nat.mul_one, Array.toList_setIfInBounds] at ht ⊢
      rw [List.take_succ_eq_append_getElem (by simpa using hlt), List.getElem_set_self, List.take_set_of_le (Nat.le_refl _), ht]
theorem pad_cells (pt : List Int) (h : pt.length ≤ 8) : pt.map (Value.int .i64) ++ List.drop pt.length [Value.int .i64 0, Value.int .i64 0, Value.int .i64 0, Value.int .i64 0, Value.int .i64 0, Value.int .i64 0, Value.int .i64 0, Value.int .i64 0] = (pad pt).map (Value.int .i64) := by
  rw [show [Value.int .i64 0, Value.int .i64 0, Value.int .i64 0, Value.int .i64 0, Value.int .i64 0, Value.int .i64 0, Value.int .i64 0, Value.int .i64 0] = List.replicate 8 (Value.int .i64 0) from rfl, List.drop_replicate, pad]
  simp
theorem list8 (l : List Int) (h : l.length = 8) : ∃ a b c d e f g i, l = [a, b, c, d, e, f, g, i] := by
  match l, h with
  | [a, b, c, d, e, f, g, i], _ => exact ⟨a, b, c, d, e, f, g, i, rfl⟩
theorem pad_01 {pt : List Int} (h : Ones pt) : Ones (pad pt) := by
  intro x hx
  rcases List.mem_append.1 hx with hx | hx
  · exact h x hx
  · exact .inl (List.eq_of_mem_replicate hx)
theorem range_mid {m k : Nat} {pre rest : List Nat} (h : List.range m = pre ++ k :: rest) : k = pre.length ∧ pre.length < m := by
  have h1 : pre.length < m := by have := congrArg List.length h; simp at this; omega
  have h2 : (List.range m)[pre.length]? = some k := by rw [h]; simp
  rw [List.getElem?_range h1] at h2
  exact ⟨(Option.some.inj h2).symm, h1⟩
def PackR (l : List Int) (w : World) (e : Ending) (w' : World) : Prop :=
  ∃ ad cap, e = .returned (.tuple #[.slice ad (packV l).length cap, .int .i64 (packE l)]) ∧ w'.ownsRow w.heap.size 5 1 (.slice ad (packV l).length cap) (packV l).length ((packV l).map (Value.int .u8)) ∧ Below w.heap.size w w'
theorem Tryz.info_byt : (Tryz.prog.info? 5).map (fun i => (i.zero, i.size, i.bytes)) = some (some (.int .u8 0), 1, 1) := by kernel_rfl
theorem packB_len : ∀ (m : Nat) (l : List Int), l.length ≤ 8 * m → 8 * m < l.length + 8 → (packB l).length = m
  | 0, l, h, _ => by
    have : l = [] := List.eq_nil_of_length_eq_zero (by omega)
    rw [this, packB_nil]; rfl
  | m + 1, l, h, k => by
    rw [packB_more (by intro e; subst e; simp at k; omega), List.length_cons, packB_len m (l.drop 8) (by simp; omega) (by simp; omega)]
theorem packB_get : ∀ (k : Nat) (l : List Int), 8 * k < l.length → (packB l).getD k 0 = num (pad ((l.drop (8 * k)).take 8)) 0
  | 0, l, h => by rw [packB_more (by intro e; subst e; simp at h)]; simp
  | k + 1, l, h => by
    rw [packB_more (by intro e; subst e; simp at h), List.getD_cons_succ, packB_get k (l.drop 8) (by simp; omega), List.drop_drop]
    rw [show 8 + 8 * k = 8 * (k + 1) by omega]
set_option maxRecDepth 100000 in
set_option maxHeartbeats 4000000 in
theorem pack_yes (b o n m cap : Nat) (l : List Int) (w : World) (hnc : n ≤ cap) (hc : cap ≤ 9223372036854775807) (hl : l.length = n) (hcell : ∀ i, i < n → w.cell? ⟨b, o + i, none⟩ = some (.int .i64 (l.getD i 0))) (ho : Ones l) (h1 : 1 ≤ n) (h9 : n ≤ 4096) (hm : bytesV n = m) (hm1 : n ≤ 8 * m) (hm2 : 8 * m < n + 8) :
    Calls Tryz.prog 186 #[.slice (some ⟨b, o, none⟩) n cap] w fun e w' => ∃ ad cap, e = .returned (.tuple #[.slice ad m cap, .int .i64 0]) ∧ w'.ownsRow w.heap.size 5 1 (.slice ad m cap) m ((packB l).map (Value.int .u8)) ∧ Below w.heap.size w w' := by
  obtain ⟨i0, hi, hz0, hz1, hz2⟩ := info_parts Tryz.info_byt
  have HC := Lib.hid (contains_any (some ⟨b, o, none⟩) n cap l w (by omega) ⟨hl, .inr ⟨b, o, rfl, hcell⟩⟩)
  have HO := Lib.hid (show decide (Ones l) = true by rw [decide_eq_true_iff]; exact ho)
  have HN := Lib.hid hm
  have HP := Lib.hid (packB_len m l (by omega) (by omega))
  have HG := Lib.hid (fun k (h : 8 * k < n) => packB_get k l (by omega))
  have HL := Lib.hid hl
  have HS := Lib.hid hcell
  have HB := Lib.hid ho
  have hm0 : ((m : Int) == 0) = false := by simp; omega
  have hbw : b < w.heap.size := block_lt_of_cell (hcell 0 (by omega))
  clear hl hcell ho hm
  refine calls_of_marks Tryz.func186 rfl ?_
  simp only [Tryz.ntmps186, List.size_toArray, List.length_cons, List.length_nil, Nat.reduceAdd, Nat.reduceSub, Array.replicate_succ, Array.replicate_zero, List.push_toArray, List.append_toArray, List.nil_append, List.cons_append]
  go_wp2_with (first
    | (go_at_call 199; refine (bytes_any _ _).mono ?_; rw [HN.out]; rintro e w1 ⟨rfl, rfl⟩)
    | (go_at_call 200; refine HC.out.mono ?_; rw [HO.out]; rintro e w1 ⟨rfl, rfl⟩)
    | (at_make; refine wpList_make_own _ rfl _ _ 22 rfl w.heap.size 5 i0 (.int .u8 0) 1 Tryz.underlying22 hi hz0 hz1 .i64 .i64 (m : Int) m rfl rfl rfl (by rw [hz2]; omega) (by unfold maxLen; omega) (Nat.le_refl _) ?_; intro w1 hown hgrow; have hb1 : Below w.heap.size w w1 := (Below.refl _ w).grown hgrow (Nat.le_refl _) (by simp); have HW := Lib.hid hown; clear hown)
    | (go_at_call 201; refine (chunk_made _ _ _ _).mono ?_; rintro e w2 ⟨nb, bb, rfl, hne, l1, l2, cn, cb, hb⟩))
  simp only [World.size_alloc] at l1 l2
  have hs1 := hb1.size
  have hs2 := hb.size
  have ln : nb < w2.heap.size := block_lt_of_cell cn
  have lb : bb < w2.heap.size := block_lt_of_cell cb
  have hg1 : w.heap.size < w1.heap.size := (ownsRow_blk HW.out).2
  obtain ⟨B, hB⟩ : ∃ B, w1.heap.size = B := ⟨_, rfl⟩
  have hv0 : Boxed w2 B 22 (.slice (some ⟨w.heap.size, 0, none⟩) 0 m) := by rw [← hB]; exact (hb.block _ (by simp)).trans (Boxed.new w1 _ _)
  have hr0 : w2.ownsRow w.heap.size 5 1 (.slice (some ⟨w.heap.size, 0, none⟩) 0 m) 0 [] := ownsRow_same (HW.out.alloc _) (hb.block _ (by simp; omega))
  have hbel : Below w.heap.size w w2 := (hb1.alloc (by omega) _).trans (hb.mono (by simp; omega))
  rw [hB]
  rw [hB] at l1 l2 hg1
  simp only [World.size_alloc, hB] at hs2
  have hzB : ¬ ((B = nb ∨ B = bb) ∨ B = w2.heap.size ∨ B = w2.heap.size + 1) := by omega
  have hzg : ¬ ((w.heap.size = nb ∨ w.heap.size = bb) ∨ w.heap.size = w2.heap.size ∨ w.heap.size = w2.heap.size + 1) := by omega
  have hGV := chunk_gives n m cap b o nb bb h1 hm1 hm2 hnc hc h9 hne w2 2 (by omega) cn cb
  clear hb hB hb1 HW cn cb
  refine range_wp (gf := 211) (lb := #[.pointer (some ⟨nb, 0, none⟩), .pointer (some ⟨bb, 0, none⟩)]) rfl (enters_of Tryz.func211 (by kernel_rfl) rfl)
    hGV (by rintro k (rfl | rfl) <;> assumption) (fun _ => rfl)
    (fun pre W' => Boxed W' B 22 (.slice (some ⟨w.heap.size, 0, none⟩) pre.length m) ∧ W'.ownsRow w.heap.size 5 1 (.slice (some ⟨w.heap.size, 0, none⟩) pre.length m) pre.length (((packB l).take pre.length).map (Value.int .u8)) ∧ Below w.heap.size w W')
    (fun _ _ _ => False) ?hI (fun _ _ _ _ hh _ => hh) ⟨hv0, by simpa using hr0, hbel⟩ ?_ ?assign ?body ?done ?stop
  case hI =>
    rintro p A B' ⟨h1, h2, h4⟩ hs
    refine ⟨boxed_sep h1 hs hzB, ownsRow_same h2 (hs.block _ (ownsRow_blk h2).2 hzg), ?_⟩
    exact h4.trans (hs.below h4.size (by intro k hk; omega))
  case assign =>
    intro l x W K hK
    unfold encC
    gi_wp2
    exact hK
  case body =>
    rintro ll pre k rest W' hx hlt ⟨hv, hrow, hB⟩
    obtain ⟨rfl, hkm⟩ := range_mid hx
    obtain ⟨k, hkk⟩ : ∃ k, pre.length = k := ⟨_, rfl⟩
    rw [hkk] at hv hrow hkm ⊢
    have HK := Lib.hid hkk
    clear hx hkk hv0 hr0
    have hk8 : 8 * k < n := by omega
    obtain ⟨pt, hpt⟩ : ∃ pt, (l.drop (8 * k)).take 8 = pt := ⟨_, rfl⟩
    have hptl : pt.length = partLen n k := by rw [← hpt, List.length_take, List.length_drop, HL.out]; unfold partLen; rfl
    have hptg : ∀ i, i < pt.length → pt.getD i 0 = l.getD (8 * k + i) 0 := fun i hi => by
      have : i < 8 := by rw [hptl] at hi; unfold partLen at hi; omega
      rw [← hpt, List.getD_eq_getElem?_getD, List.getElem?_take_of_lt this, List.getElem?_drop, ← List.getD_eq_getElem?_getD]
    have hpto : Ones pt := fun x hx => HB.out x (List.mem_of_mem_drop (List.mem_of_mem_take (hpt ▸ hx)))
    have hgk := HG.out k hk8
    rw [hpt] at hgk
    have hp1 : 1 ≤ partLen n k := by unfold partLen; omega
    have hp8 : partLen n k ≤ 8 := by unfold partLen; omega
    have hin : 8 * k + partLen n k ≤ n := by unfold partLen; omega
    obtain ⟨p, hpp⟩ : ∃ p, partLen n k = p := ⟨_, rfl⟩
    rw [hpp] at hptl hp1 hp8 hin ⊢
    clear hpt hpp
    have hvc := hv.cell
    have hs5 := hB.size
    have hsrc : ∀ j v, (pt.map (Value.int .i64))[j]? = some v → ∀ W6, Below w.heap.size w W6 → W6.cell? ((⟨b, o + 8 * k, none⟩ : Addr).add j) = some v := fun j v hv W6 hB6 => by
      have hj : j < pt.length := by have := (List.getElem?_eq_some_iff.1 hv).1; simpa using this
      rw [Addr.add_lit, Nat.add_assoc]
      refine cell_later hB6 ?_
      rw [HS.out (8 * k + j) (by omega), ← hptg j hj]
      rw [List.getElem?_map, List.getElem?_eq_getElem hj] at hv
      rw [← hv, List.getD_eq_getElem?_getD, List.getElem?_eq_getElem hj]; rfl
    have HSRC := Lib.hid hsrc
    have HPT := Lib.hid hptl
    clear hsrc hptg hptl
    gi_wp2_with (with_reducible refine wpListIn_copy_row rfl _ _ 25 25 rfl 3 Tryz.underlying25 (by kernel_rfl) W'.heap.size 0 8 8 ⟨b, o + 8 * k, none⟩ p p rfl rfl #[.int .i64 0, .int .i64 0, .int .i64 0, .int .i64 0, .int .i64 0, .int .i64 0, .int .i64 0, .int .i64 0] 273 (World.alloc_heap_new _ _) (pt.map (Value.int .i64)) (by rw [List.length_map, HPT.out]; exact (Nat.min_eq_left hp8).symm) (fun j v hv => HSRC.out j v hv _ (hB.alloc (by omega) _)) (by rw [List.length_map, HPT.out]; simp; omega) (ints_oneCell _ _) ?_; intro v9)
    go_simp
    rw [pad_cells pt (by rw [HPT.out]; exact hp8)]
    have hpd := pad_01 hpto
    obtain ⟨q7, q6, q5, q4, q3, q2, q1, q0, hq⟩ := list8 (pad pt) (pad_len pt (by rw [HPT.out]; exact hp8))
    rw [hq] at hpd hgk ⊢
    have f7 := hpd q7 (by simp)
    have f6 := hpd q6 (by simp)
    have f5 := hpd q5 (by simp)
    have f4 := hpd q4 (by simp)
    have f3 := hpd q3 (by simp)
    have f2 := hpd q2 (by simp)
    have f1 := hpd q1 (by simp)
    have f0 := hpd q0 (by simp)
    simp only [List.map_cons, List.map_nil]
    obtain ⟨E, hE⟩ : ∃ E, W'.heap.size = E := ⟨_, rfl⟩
    obtain ⟨W6, hW6⟩ : ∃ W6, (W'.alloc (.cells #[.int .i64 0, .int .i64 0, .int .i64 0, .int .i64 0, .int .i64 0, .int .i64 0, .int .i64 0, .int .i64 0] 273)).setRow W'.heap.size #[.int .i64 q7, .int .i64 q6, .int .i64 q5, .int .i64 q4, .int .i64 q3, .int .i64 q2, .int .i64 q1, .int .i64 q0] = W6 := ⟨_, rfl⟩
    have hq6 : W6.heap[E]? = some (.cells #[.int .i64 q7, .int .i64 q6, .int .i64 q5, .int .i64 q4, .int .i64 q3, .int .i64 q2, .int .i64 q1, .int .i64 q0] 273 (0, 0)) := by
      rw [← hW6, ← hE]; exact setRow_heap _ _ _ _ _ _ (World.alloc_heap_new _ _)
    have hb6 : Below W'.heap.size W' W6 := by rw [← hW6]; exact below_setRow ((Below.refl _ _).alloc (Nat.le_refl _) _) (Nat.le_refl _) _
    have hs6 : W6.heap.size = E + 1 := by rw [← hW6, ← hE]; simp
    have hv6 : Boxed W6 B 22 (.slice (some ⟨w.heap.size, 0, none⟩) k m) := (hb6.block _ hv.lt).trans hv
    have hr6 := ownsRow_same hrow (hb6.block _ (ownsRow_blk hrow).2)
    have hB6 := hB.trans (hb6.mono (by omega))
    have hh6 : Hold (fun k => (k = nb ∨ k = bb) ∨ k = w2.heap.size ∨ k = w2.heap.size + 1) W' W6 := Hold.below hb6 (by intro k hk; omega)
    rw [hW6, hE]
    have hlE : w2.heap.size + 1 < E := by omega
    clear hW6 hb6 hpd hq hv hvc hrow hB
    have hvc := hv6.cell
    have hvf := hv6.frozen
    have hBE : ¬ B = E := by omega
    have e0 : W6.cell? ⟨E, 0, none⟩ = some (.int .i64 q7) := by simp [World.cell?, hq6]
    have e1 : W6.cell? ⟨E, 1, none⟩ = some (.int .i64 q6) := by simp [World.cell?, hq6]
    have e2 : W6.cell? ⟨E, 2, none⟩ = some (.int .i64 q5) := by simp [World.cell?, hq6]
    have e3 : W6.cell? ⟨E, 3, none⟩ = some (.int .i64 q4) := by simp [World.cell?, hq6]
    have e4 : W6.cell? ⟨E, 4, none⟩ = some (.int .i64 q3) := by simp [World.cell?, hq6]
    have e5 : W6.cell? ⟨E, 5, none⟩ = some (.int .i64 q2) := by simp [World.cell?, hq6]
    have e6 : W6.cell? ⟨E, 6, none⟩ = some (.int .i64 q1) := by simp [World.cell?, hq6]
    have e7 : W6.cell? ⟨E, 7, none⟩ = some (.int .i64 q0) := by simp [World.cell?, hq6]
    obtain ⟨v0, gc, gf⟩ := ownsRow_room hr6 hkm
    have hGE : ¬ w.heap.size = E := by omega
    have hGB : ¬ w.heap.size = B := by omega
    have hBG : ¬ B = w.heap.size := by omega
    have hk1 : k + 1 ≤ m := by omega
    have HJ := Lib.hid (fun W => join_any q7 q6 q5 q4 q3 q2 q1 q0 (by omega) (by omega) (by omega) (by omega) (by omega) (by omega) (by omega) (by omega) (by omega) (by omega) (by omega) (by omega) (by omega) (by omega) (by omega) (by omega) W)
    obtain ⟨y, hy⟩ : ∃ y, num [q7, q6, q5, q4, q3, q2, q1, q0] 0 = y := ⟨_, rfl⟩
    rw [hy] at HJ hgk
    have HGK := Lib.hid hgk
    clear f7 f6 f5 f4 f3 f2 f1 f0 hq6 hy hgk hpto hE
    have hlen : (pre ++ [k]).length = k + 1 := by simp [HK.out]
    have htk : ((packB l).take k).map (Value.int .u8) ++ [.int .u8 y] = ((packB l).take (k + 1)).map (Value.int .u8) := by
      rw [← take_next (packB l) k (by rw [HP.out]; exact hkm), HGK.out]; simp
    have HLEN := Lib.hid hlen
    have HTK := Lib.hid htk
    clear hlen htk
    gi_wp2
    gi_region_with (first | (refine ⟨trivial, ?_⟩; gi_at_call 202; refine (((callsIn_wide (n := _)).2 (HJ.out _)).inRound ll).mono ?_; rintro e w7 ⟨rfl, hb7⟩; have c7 := cell_later hb7 gc; have f7 := (hb7.frozen (p := ⟨w.heap.size, k, none⟩) (block_lt_of_cell gc)).trans gf; have c8 := cell_later hb7 hvc; have f8 := (hb7.frozen (p := ⟨B, 0, none⟩) (block_lt_of_cell hvc)).trans hvf; have l7 := block_lt_of_cell c7; have l8 := block_lt_of_cell c8))
    all_goals
      have hb8 : Below W6.heap.size W6 w7 := (show Below W6.heap.size W6 W6.drew from ⟨rfl, rfl, rfl, Nat.le_refl _, fun _ _ => rfl⟩).trans hb7
      have hv7 : Boxed w7 B 22 (.slice (some ⟨w.heap.size, 0, none⟩) k m) := (hb8.block _ hv6.lt).trans hv6
      have hr8 := ownsRow_push (ownsRow_same hr6 (hb8.block _ (ownsRow_blk hr6).2)) hkm (.int .u8 y)
      rw [HTK.out] at hr8
      have hv8 : Boxed (w7.setCell ⟨w.heap.size, k, none⟩ (.int .u8 y)) B 22 (.slice (some ⟨w.heap.size, 0, none⟩) k m) := (Below.heap_setCell _ _ _ _ (by simpa using hBG)).trans hv7
      have hr9 := ((hr8.kept (grownBy_setCell' _ B (.slice (some ⟨w.heap.size, 0, none⟩) (k + 1) m)) (.inr (by simpa [Value.ownBlock] using hGB))).alloc (.cells #[.int .u8 y] 5))
      have hv9 := ((hv8.set (.slice (some ⟨w.heap.size, 0, none⟩) (k + 1) m)).alloc (.cells #[.int .u8 y] 5))
      have hBf : Below w.heap.size w (((w7.setCell ⟨w.heap.size, k, none⟩ (.int .u8 y)).setCell ⟨B, 0, none⟩ (.slice (some ⟨w.heap.size, 0, none⟩) (k + 1) m)).alloc (.cells #[.int .u8 y] 5)) :=
        (((hB6.trans (hb8.mono (by omega))).setCell (p := ⟨w.heap.size, k, none⟩) (Nat.le_refl _) _).setCell (p := ⟨B, 0, none⟩) (by show _ ≤ B; omega) _).alloc (by simp [World.setCell]; omega) _
      have hhf := ((((hh6.trans (Hold.below hb8 (by intro k hk; omega))).trans (.setCell (b := w.heap.size) (o := k) (p := none) _ hzg (.int .u8 y))).trans (.setCell (b := B) (o := 0) (p := none) _ hzB (.slice (some ⟨w.heap.size, 0, none⟩) (k + 1) m))).trans (.alloc _ _ (.cells #[.int .u8 y] 5)))
      clear hb7 c7 f7 c8 f8 l7 l8 hb8 hv7 hv8 hr8
      gi_wp2
      refine ⟨hhf, ?_, ?_, hBf⟩
      · rw [HLEN.out]; exact hv9
      · rw [HLEN.out]; exact hr9
  case done =>
    rintro W' ⟨hv, hrow, hB⟩ hK
    have hvc := hv.cell
    rw [List.length_range, List.take_of_length_le (by rw [HP.out]; omega)] at hrow
    rw [List.length_range] at hvc
    have HR := Lib.hid hrow
    clear hv0 hr0 hv hrow
    go_wp2
    refine ret_mark hK (results_tmp2 rfl _ _ _) ?_
    have hlK : w2.heap.size < W'.heap.size := (Array.getElem?_eq_some_iff.1 hK).1
    exact ⟨some ⟨w.heap.size, 0, none⟩, m, rfl, ownsRow_same HR.out (World.putObj_heap_other (by omega)), Below.putObj hB (by omega) _⟩
  case stop =>
    rintro c pre W _ hh _
    exact hh.elim
theorem bytesV_len {n : Nat} (h1 : 1 ≤ n) (h2 : n ≤ 4096) : ∃ m : Nat, bytesV n = m ∧ n ≤ 8 * m ∧ 8 * m < n + 8 := by
  unfold bytesV
  rw [if_neg (by omega)]
  exact ⟨(n + 7) / 8, by omega, by omega, by omega⟩
theorem pack_any (a : Option Addr) (n cap : Nat) (l : List Int) (w : World) (hnc : n ≤ cap) (hc : cap ≤ 9223372036854775807) (h : SlK .i64 w a n l) :
    Calls Tryz.prog 186 #[.slice a n cap] w (PackR l w) := by
  have hl : l.length = n := h.1
  cases hp : packOk l
  · refine (pack_no a n cap l w (by omega) h hp).mono ?_
    rintro e w' ⟨rfl, rfl⟩
    unfold PackR packV packE
    rw [hp]
    exact ⟨none, 0, rfl, World.ownsRow_nil _ _ _ _, Below.refl _ _⟩
  · have hq := hp
    unfold packOk at hq
    simp only [Bool.and_eq_true, decide_eq_true_eq] at hq
    obtain ⟨⟨h1, h2⟩, ho⟩ := hq
    obtain ⟨m, hm, hm1, hm2⟩ := bytesV_len (n := n) (by omega) (by omega)
    rcases h.2 with h0 | ⟨b, o, rfl, hs⟩
    · omega
    · refine (pack_yes b o n m cap l w hnc hc hl hs ho (by omega) (by omega) hm hm1 hm2).mono ?_
      rintro e w' ⟨ad, c, rfl, hr, hb⟩
      have hpl := packB_len m l (by omega) (by omega)
      unfold PackR packV packE
      simp only [hp, if_true]
      exact ⟨ad, c, by rw [hpl], by rw [hpl]; exact hr, hb⟩
end Bt
end Go.Proofs.YtkjkepnailamnaaGreat
namespace Go.Proofs.YtkjkepnailamnaaGreat
open Go.RowKit
set_option linter.unusedVariables false
theorem Im.below_setCells {B b : Nat} (hB : B ≤ b) : ∀ (vs : List Value) (o : Nat) (w : World), Below B w (w.setCells b o vs)
  | [], _, w => .refl _ w
  | v :: vs, o, w => by
    rw [World.setCells]
    exact ((Below.refl B w).setCell (p := ⟨b, o, none⟩) hB v).trans (Im.below_setCells hB vs (o + 1) _)
def Im.Rm (w : World) (b n cap : Nat) (xs : List Int) : Prop := Bt.Bs w (some ⟨b, 0, none⟩) n cap xs ∧ b < w.heap.size ∧ ∀ j, n ≤ j → j < cap → (w.cell? ⟨b, j, none⟩).isSome = true ∧ w.frozen? ⟨b, j, none⟩ = false
theorem Im.Rm.later {w w' : World} {b n cap : Nat} {xs : List Int} (h : Im.Rm w b n cap xs) (hb : Below w.heap.size w w') : Im.Rm w' b n cap xs := by
  obtain ⟨h1, h2, h4⟩ := h
  refine ⟨h1.below hb, Nat.lt_of_lt_of_le h2 hb.size, fun j j1 j2 => ⟨?_, ?_⟩⟩
  · obtain ⟨v, hv⟩ := Option.isSome_iff_exists.1 (h4 j j1 j2).1
    rw [cell_later hb hv]; rfl
  · rw [hb.frozen (p := ⟨b, j, none⟩) h2]; exact (h4 j j1 j2).2
theorem Im.run_app {w : World} {b n cap : Nat} {xs : List Int} (h : Im.Rm w b n cap xs) (hn : 1 ≤ n) {a : Option Addr} {m c : Nat} {l : List Int} (hy : SlK .u8 w a m l) (hm : 1 ≤ m) (hl9 : n + m ≤ 1000000) (ty : TypeId) :
    ∃ a' c' w', (Builtin.append_ #[22, 22] ty #[.slice (some ⟨b, 0, none⟩) n cap, .slice a m c]).run Tryz.prog w = .ok (.slice a' (n + m) c') w' ∧ SlK .u8 w' a' (n + m) (xs ++ l) ∧ ∀ B, B ≤ b → Below B w w' := by
  obtain ⟨i0, hi, hz0, hz1, hz2⟩ := info_parts Bt.Tryz.info_byt
  obtain ⟨⟨⟨hxl, hx⟩, hnc, hcm, hby⟩, hlt, hsp⟩ := h
  obtain ⟨hll, hyc⟩ := hy
  rcases hyc with h0 | ⟨gb, go, rfl, hyc⟩
  · omega
  rcases hx with h0 | ⟨b', o', e', hx⟩
  · omega
  cases e'
  have hnews : ∀ j u, (l.map (Value.int .u8))[j]? = some u → w.cell? ((⟨gb, go, none⟩ : Addr).add j) = some u := fun j u hj => by
    rw [List.getElem?_map] at hj
    have hjm : j < m := by
      rcases Nat.lt_or_ge j m with h | h
      · exact h
      · rw [List.getElem?_eq_none (by omega)] at hj; cases hj
    rw [List.getElem?_eq_getElem (by omega)] at hj
    have := hyc j hjm
    rw [List.getD_eq_getElem?_getD, List.getElem?_eq_getElem (by omega)] at this
    rw [addrK_add, this]; exact hj
  have hone : ∀ u ∈ l.map (Value.int .u8), u.oneCell' = true := fun u hu => by obtain ⟨x, _, rfl⟩ := List.mem_map.1 hu; rfl
  have hlm : (l.map (Value.int .u8)).length = m := by rw [List.length_map, hll]
  by_cases hroom : n + m ≤ cap
  · have hr := run_append_room_src (P := Tryz.prog) w 22 22 ty 5 i0 Tryz.underlying22 hi b 0 n cap (.slice (some ⟨gb, go, none⟩) m c) m (l.map (Value.int .u8)) (Src.ofSlice w Tryz.underlying22 _ m c _ (by rw [hlm, hz1, Nat.mul_one]) hnews hone) hroom
      (fun j hj => by rw [hz1, Nat.mul_one, Nat.zero_add]; exact (hsp (n + j) (by omega) (by omega)).1) (fun j hj => by rw [hz1, Nat.mul_one, Nat.zero_add]; exact (hsp (n + j) (by omega) (by omega)).2)
    rw [hz1, Nat.mul_one, Nat.zero_add] at hr
    refine ⟨_, _, _, hr, ⟨by rw [List.length_append, hxl, hll], .inr ⟨b, 0, rfl, fun i hi2 => ?_⟩⟩, fun B hB => Im.below_setCells hB _ _ _⟩
    rw [Nat.zero_add]
    by_cases hin : i < n
    · rw [World.cell?_setCells_out b _ n w ⟨b, i, none⟩ (fun _ _ => .inl hin)]
      have := hx i hin
      rw [Nat.zero_add] at this
      rw [this, List.getD_eq_getElem?_getD, List.getD_eq_getElem?_getD, List.getElem?_append_left (by omega)]
    · obtain ⟨k, rfl⟩ : ∃ k, i = n + k := ⟨i - n, by omega⟩
      have hk : k < (l.map (Value.int .u8)).length := by omega
      rw [World.cell?_setCells_in b _ n w (fun q hq => (hsp (n + q) (by omega) (by omega)).1) k hk, List.getD_eq_getElem?_getD, List.getElem?_append_right (by omega), hxl, Nat.add_sub_cancel_left, List.getElem?_eq_getElem (by omega)]
      simp
  · have holds : ∀ j u, (xs.map (Value.int .u8))[j]? = some u → w.cell? ((⟨b, 0, none⟩ : Addr).add j) = some u := fun j u hj => by
      rw [List.getElem?_map] at hj
      have hjn : j < n := by
        rcases Nat.lt_or_ge j n with h | h
        · exact h
        · rw [List.getElem?_eq_none (by omega)] at hj; cases hj
      rw [List.getElem?_eq_getElem (by omega)] at hj
      have := hx j hjn
      rw [List.getD_eq_getElem?_getD, List.getElem?_eq_getElem (by omega)] at this
      rw [addrK_add, this]; exact hj
    have hr := run_append_grow (P := Tryz.prog) w 22 ty 5 i0 (.int .u8 0) Tryz.underlying22 hi hz0 ⟨b, 0, none⟩ n cap (xs.map (Value.int .u8)) (by rw [List.length_map, hxl, hz1, Nat.mul_one]) holds ⟨gb, go, none⟩ m c (l.map (Value.int .u8)) (by rw [hlm, hz1, Nat.mul_one]) hnews (by omega) (by omega) (by have := Go.Room.nextslicecap_le' (need := n + m) (old := cap) (by omega); rw [hz2]; omega)
    refine ⟨_, _, _, hr, ⟨by rw [List.length_append, hxl, hll], .inr ⟨w.heap.size, 0, rfl, fun i hi2 => ?_⟩⟩, fun B hB => ((Below.refl B w).drew).alloc (by show B ≤ w.heap.size; omega) _⟩
    rw [Nat.zero_add]
    have hg : (xs ++ l).length = n + m := by rw [List.length_append, hxl, hll]
    show (w.drew.alloc _).cell? ⟨w.drew.heap.size, i, none⟩ = _
    rw [World.cell?_alloc_at _ _ _ _ rfl]
    rw [Array.getElem?_append_left (by simp [hxl, hll]; omega)]
    rw [List.append_toArray, List.getElem?_toArray, ← List.map_append, List.getElem?_map, List.getElem?_eq_getElem (by omega), List.getD_eq_getElem?_getD, List.getElem?_eq_getElem (by omega)]
    rfl
end Go.Proofs.YtkjkepnailamnaaGreat
namespace Go.Proofs.YtkjkepnailamnaaGreat
open Go.RowKit
set_option linter.unusedVariables false
theorem Hj.bound3 {a b c : Int} (a0 : 1 ≤ a) (a1 : a ≤ 4096) (b0 : 1 ≤ b) (b1 : b ≤ 65536) (c0 : 1 ≤ c) (c1 : c ≤ 3) : 0 ≤ a * b ∧ a * b ≤ 268435456 ∧ 0 ≤ a * b * c ∧ a * b * c ≤ 805306368 := by
  have h1 : 0 ≤ a * b := Int.mul_nonneg (by omega) (by omega)
  have h2 : a * b ≤ 4096 * 65536 := Int.mul_le_mul a1 b1 (by omega) (by omega)
  have h3 : 0 ≤ a * b * c := Int.mul_nonneg h1 (by omega)
  have h4 : a * b * c ≤ (4096 * 65536) * 3 := Int.mul_le_mul h2 c1 (by omega) (by omega)
  omega
theorem field0_run (c m : Int) (W : World) : (Instr.field 29 (.agg #[.int .i64 c, .int .i64 m]) 0).run Tryz.prog W = .ok (.int .i64 c) W := by kernel_rfl
theorem Hj.size_small {h : Hd.H} (hk : h.kd < 4) : Hj.size h = 0 := by unfold Hj.size; rw [if_pos hk]
theorem Hj.size_4 {h : Hd.H} (hk : h.kd = 4) : Hj.size h = h.h * ((h.w + 7) / 8) := by unfold Hj.size; rw [if_neg (by omega), if_pos hk]
theorem Hj.size_5 {h : Hd.H} (hk : 4 < h.kd) : Hj.size h = h.w * h.h * Hj.chan h * (if 255 < h.m then 2 else 1) := by unfold Hj.size; rw [if_neg (by omega), if_neg (by omega)]
set_option maxRecDepth 100000 in
set_option maxHeartbeats 2000000 in
theorem hsize_any (h : Hd.H) (hm : Hd.May h) (w : World) :
    Calls Tryz.prog 100 #[agH h] w fun e w' => e = .returned (.int .i64 (Hj.size h)) ∧ Below w.heap.size w w' := by
  have HF := Lib.hid (hformat_any h hm)
  have HR := Lib.hid (hraw_any h hm)
  obtain ⟨kd, ww, hh, m⟩ := h
  obtain ⟨⟨a1, a2⟩, ⟨b1, b2⟩, ⟨c1, c2⟩, ⟨d1, d2⟩, _⟩ := hm
  simp only at a1 a2 b1 b2 c1 c2 d1 d2
  unfold agH at HF HR ⊢
  by_cases k3 : kd < 4
  · have X := Lib.hid (Hj.size_small (h := ⟨kd, ww, hh, m⟩) k3)
    simp only [decide_eq_false (show ¬ 3 < kd by omega)] at HR
    clear HF
    go_enter Tryz.func100, Tryz.ntmps100
    go_wp2_with (go_at_call 87; refine (HR.out _).mono ?_; rintro e w9 ⟨rfl, hb9⟩)
    go_ret
    exact ⟨Ar.ret_i X.out.symm, ((Below.refl _ w).alloc (Nat.le_refl _) _).trans (hb9.mono (by simp))⟩
  simp only [decide_eq_true (show 3 < kd by omega)] at HR
  by_cases k4 : kd = 4
  · have X := Lib.hid (Hj.size_4 (h := ⟨kd, ww, hh, m⟩) k4)
    subst k4
    simp only at X
    obtain ⟨q, hq⟩ : ∃ q, (ww + 7) / 8 = q := ⟨_, rfl⟩
    have q0 : 0 ≤ q := by omega
    have q1 : q ≤ 512 := by omega
    have p0 : 0 ≤ hh * q := Int.mul_nonneg (by omega) q0
    have p1 : hh * q ≤ 65536 * 512 := Int.mul_le_mul c2 q1 q0 (by omega)
    have e1 : wrap64 (ww + 7) = ww + 7 := by rw [IntWalk.wrap64_in] <;> omega
    have f1 : IntKind.i64.wrap (ww + 7) = ww + 7 := by rw [IntWalk.i64_in] <;> omega
    have e3 : (ww + 7).tdiv 8 = q := by rw [Int.tdiv_eq_ediv_of_nonneg (by omega)]; exact hq
    rw [hq] at X
    obtain ⟨r, hr⟩ : ∃ r, hh * q = r := ⟨_, rfl⟩
    rw [hr] at p0 p1 X
    have e2 : wrap64 (hh * q) = r := by rw [hr, IntWalk.wrap64_in] <;> omega
    have f2 : IntKind.i64.wrap (hh * q) = r := by rw [hr, IntWalk.i64_in] <;> omega
    have e4 : wrap64 q = q := by rw [IntWalk.wrap64_in] <;> omega
    clear HF hr p0 p1 hq
    go_enter Tryz.func100, Tryz.ntmps100
    go_wp2_with fail
    refine (HR.out _).mono ?_
    rintro e w9 ⟨rfl, hb9⟩
    obtain ⟨n0, n1, n2, n3⟩ := ((Hb.new w 62 ⟨4, ww, hh, m⟩).later hb9).cells
    go_wp2
    go_ret
    exact ⟨Ar.ret_i X.out.symm, ((Below.refl _ w).alloc (Nat.le_refl _) _).trans (hb9.mono (by simp))⟩
  · have X := Lib.hid (Hj.size_5 (h := ⟨kd, ww, hh, m⟩) (show 4 < kd by omega))
    simp only at X
    unfold Hj.fm at HF
    obtain ⟨c, hc⟩ : ∃ c, Hj.chan ⟨kd, ww, hh, m⟩ = c := ⟨_, rfl⟩
    have hcc := Hj.chan_at ⟨kd, ww, hh, m⟩
    rw [hc] at HF X hcc
    obtain ⟨t0, t1, t2, t3⟩ := Hj.bound3 (c := c) b1 b2 c1 c2 (by omega) (by omega)
    obtain ⟨r, hr⟩ : ∃ r, ww * hh = r := ⟨_, rfl⟩
    rw [hr] at t0 t1 t2 t3 X
    obtain ⟨s, hs⟩ : ∃ s, r * c = s := ⟨_, rfl⟩
    rw [hs] at t2 t3 X
    have f1 : IntKind.i64.wrap (ww * hh) = r := by rw [hr, IntWalk.i64_in] <;> omega
    have f2 : IntKind.i64.wrap (r * c) = s := by rw [hs, IntWalk.i64_in] <;> omega
    have g1 : wrap64 (ww * hh) = r := by rw [hr, IntWalk.wrap64_in] <;> omega
    have g2 : wrap64 (r * c) = s := by rw [hs, IntWalk.wrap64_in] <;> omega
    have g3 : wrap64 (s * 2) = s * 2 := by rw [IntWalk.wrap64_in] <;> omega
    have k4b : (kd == 4) = false := by simpa using k4
    have hfd := field0_run c m
    have hBt : Below w.heap.size w w := .refl _ _
    clear hc hcc hr hs t0 t1 k3 a1 a2 b1 b2 c1 c2 k4
    go_enter Tryz.func100, Tryz.ntmps100
    go_wp2_with fail
    refine (HR.out _).mono ?_
    rintro e w9 ⟨rfl, hb9⟩
    obtain ⟨n0, n1, n2, n3⟩ := ((Hb.new w 62 ⟨kd, ww, hh, m⟩).later hb9).cells
    have HBz := Lib.hid (((hBt).alloc (Nat.le_refl _) (.cells #[.int .i64 kd, .int .i64 ww, .int .i64 hh, .int .i64 m] 62)).trans (hb9.mono (by simp)))
    have hBr : Below w9.heap.size w9 w9 := .refl _ _
    clear hb9 hBt
    go_wp2_with fail
    go_cut [3] (fun s3 wx => s3 = .int .i64 s ∧ Below w9.heap.size w9 wx)
    case first =>
      go_region_held3 (fun w' => w'.cell? ⟨w.heap.size, 0, none⟩ = some (.int .i64 kd) ∧ w'.cell? ⟨w.heap.size, 1, none⟩ = some (.int .i64 ww) ∧ w'.cell? ⟨w.heap.size, 2, none⟩ = some (.int .i64 hh) ∧ w'.cell? ⟨w.heap.size, 3, none⟩ = some (.int .i64 m))
        (first | exact ⟨n0, n1, n2, n3⟩ | exact ⟨cell_later hBr n0, cell_later hBr n1, cell_later hBr n2, cell_later hBr n3⟩)
        (first | (go_at_call 59; refine (HF.out _).mono ?_; rintro e w8 ⟨rfl, hb8⟩; replace hBr := bel_step (w := w9) (by first | exact hBr | exact hBr.drew) hb8))
      all_goals
        go_wp2_with fail
        go_meet
        case rel => exact ⟨rfl, hBr⟩
    case rest =>
      obtain ⟨rfl, hBx⟩ := hcut
      have m3 := cell_later hBx n3
      have HBy := Lib.hid (HBz.out.trans (hBx.mono HBz.out.size))
      clear n0 n1 n2 n3 hBr hBx
      by_cases hm2 : 255 < m
      · have X2 : Hid (Hj.size ⟨kd, ww, hh, m⟩ = s * 2) := by show _ = _; rw [X.out, if_pos hm2]
        go_wp2
        go_ret
        exact ⟨Ar.ret_i X2.out.symm, HBy.out⟩
      · have X2 : Hid (Hj.size ⟨kd, ww, hh, m⟩ = s) := by show _ = _; rw [X.out, if_neg hm2, Int.mul_one]
        go_wp2
        go_ret
        exact ⟨Ar.ret_i X2.out.symm, HBy.out⟩
set_option maxHeartbeats 2000000 in
theorem refSize_any (h : Hd.H) (hm : Hd.May h) (w : World) :
    Calls Tryz.prog 64 #[agH h] w fun e w' => e = .returned (.int .i64 (Hj.size h)) ∧ Below w.heap.size w w' := by
  obtain ⟨kd, ww, hh, m⟩ := h
  obtain ⟨⟨a1, a2⟩, ⟨b1, b2⟩, ⟨c1, c2⟩, ⟨d1, d2⟩, _⟩ := hm
  simp only at a1 a2 b1 b2 c1 c2 d1 d2
  unfold agH
  by_cases k3 : kd < 4
  · have X := Lib.hid (Hj.size_small (h := ⟨kd, ww, hh, m⟩) k3)
    go_enter Tryz.func64, Tryz.ntmps64
    go_wp2
    go_ret
    exact ⟨Ar.ret_i X.out.symm, by go_grown⟩
  by_cases k4 : kd = 4
  · have X := Lib.hid (Hj.size_4 (h := ⟨kd, ww, hh, m⟩) k4)
    subst k4
    simp only at X
    obtain ⟨q, hq⟩ : ∃ q, ww / 8 = q := ⟨_, rfl⟩
    have q0 : 0 ≤ q := by omega
    have q1 : q ≤ 512 := by omega
    have e3 : ww.tdiv 8 = q := by rw [Int.tdiv_eq_ediv_of_nonneg (by omega)]; exact hq
    have e5 : ww.tmod 8 = ww % 8 := Int.tmod_eq_emod_of_nonneg (by omega)
    have e4 : wrap64 q = q := by rw [IntWalk.wrap64_in] <;> omega
    by_cases hr : 0 < ww % 8
    · have hq2 : (ww + 7) / 8 = q + 1 := by omega
      rw [hq2, Int.mul_comm] at X
      have p0 : 0 ≤ (q + 1) * hh := Int.mul_nonneg (by omega) (by omega)
      have p1 : (q + 1) * hh ≤ 513 * 65536 := Int.mul_le_mul (by omega) c2 (by omega) (by omega)
      have e6 : wrap64 (q + 1) = q + 1 := by rw [IntWalk.wrap64_in] <;> omega
      have e7 : wrap64 ((q + 1) * hh) = (q + 1) * hh := by rw [IntWalk.wrap64_in] <;> omega
      clear p0 p1 hq hq2 q0 q1 b1 b2 c1 c2 k3
      go_enter Tryz.func64, Tryz.ntmps64
      go_wp2
      go_ret
      exact ⟨Ar.ret_i X.out.symm, by go_grown⟩
    · have hq2 : (ww + 7) / 8 = q := by omega
      rw [hq2, Int.mul_comm] at X
      have p0 : 0 ≤ q * hh := Int.mul_nonneg (by omega) (by omega)
      have p1 : q * hh ≤ 512 * 65536 := Int.mul_le_mul (by omega) c2 (by omega) (by omega)
      have e7 : wrap64 (q * hh) = q * hh := by rw [IntWalk.wrap64_in] <;> omega
      clear p0 p1 hq hq2 q0 q1 b1 b2 c1 c2 k3
      go_enter Tryz.func64, Tryz.ntmps64
      go_wp2
      go_ret
      exact ⟨Ar.ret_i X.out.symm, by go_grown⟩
  · have X := Lib.hid (Hj.size_5 (h := ⟨kd, ww, hh, m⟩) (show 4 < kd by omega))
    simp only at X
    obtain ⟨r, hr⟩ : ∃ r, ww * hh = r := ⟨_, rfl⟩
    obtain ⟨t0, t1, _, _⟩ := Hj.bound3 (c := 1) b1 b2 c1 c2 (by omega) (by omega)
    rw [hr] at t0 t1 X
    have HRW := Lib.hid hr
    have g1 : wrap64 (ww * hh) = r := by rw [hr, IntWalk.wrap64_in] <;> omega
    have k4b : (kd == 4) = false := by simpa using k4
    by_cases k5 : kd = 5
    · subst k5
      rw [show Hj.chan ⟨5, ww, hh, m⟩ = 1 from rfl, Int.mul_one] at X
      have g3 : wrap64 (2 * r) = 2 * r := by rw [IntWalk.wrap64_in] <;> omega
      by_cases hm2 : 255 < m
      · have X2 : Hid (Hj.size ⟨5, ww, hh, m⟩ = 2 * r) := by show _ = _; rw [X.out, if_pos hm2, Int.mul_comm]
        clear hr b1 b2 c1 c2 k3 a1 a2
        go_enter Tryz.func64, Tryz.ntmps64
        go_wp2
        go_ret
        exact ⟨Ar.ret_i (by first | exact X2.out.symm | (rw [HRW.out]; exact X2.out.symm)), by go_grown⟩
      · have X2 : Hid (Hj.size ⟨5, ww, hh, m⟩ = r) := by show _ = _; rw [X.out, if_neg hm2, Int.mul_one]
        clear hr b1 b2 c1 c2 k3 a1 a2
        go_enter Tryz.func64, Tryz.ntmps64
        go_wp2
        go_ret
        exact ⟨Ar.ret_i (by first | exact X2.out.symm | (rw [HRW.out]; exact X2.out.symm)), by go_grown⟩
    · obtain rfl : kd = 6 := by omega
      rw [show Hj.chan ⟨6, ww, hh, m⟩ = 3 from rfl] at X
      have g4 : wrap64 (3 * r) = 3 * r := by rw [IntWalk.wrap64_in] <;> omega
      have g3 : wrap64 (2 * (3 * r)) = 2 * (3 * r) := by rw [IntWalk.wrap64_in] <;> omega
      by_cases hm2 : 255 < m
      · have X2 : Hid (Hj.size ⟨6, ww, hh, m⟩ = 2 * (3 * r)) := by show _ = _; rw [X.out, if_pos hm2, Int.mul_comm, Int.mul_comm r]
        clear hr b1 b2 c1 c2 k3 a1 a2
        go_enter Tryz.func64, Tryz.ntmps64
        go_wp2
        go_ret
        exact ⟨Ar.ret_i (by first | exact X2.out.symm | (rw [HRW.out]; exact X2.out.symm)), by go_grown⟩
      · have X2 : Hid (Hj.size ⟨6, ww, hh, m⟩ = 3 * r) := by show _ = _; rw [X.out, if_neg hm2, Int.mul_one, Int.mul_comm]
        clear hr b1 b2 c1 c2 k3 a1 a2
        go_enter Tryz.func64, Tryz.ntmps64
        go_wp2
        go_ret
        exact ⟨Ar.ret_i (by first | exact X2.out.symm | (rw [HRW.out]; exact X2.out.symm)), by go_grown⟩
end Go.Proofs.YtkjkepnailamnaaGreat
namespace Go.Proofs.YtkjkepnailamnaaGreat
open Go.RowKit
set_option linter.unusedVariables false
namespace Rw
def feed (k : Nat) (t : List (List Int) × List Int) (x : Int) : List (List Int) × List Int :=
  if t.2.length + 1 = k then (t.1 ++ [t.2 ++ [x]], []) else (t.1, t.2 ++ [x])
def parts (k : Nat) (l : List Int) : List (List Int) × List Int := l.foldl (feed k) ([], [])
theorem parts_nil (k : Nat) : parts k [] = ([], []) := rfl
theorem parts_snoc (k : Nat) (l : List Int) (x : Int) : parts k (l ++ [x]) = feed k (parts k l) x := by simp [parts, List.foldl_append]
theorem parts_full {k : Nat} {l : List Int} {x : Int} (h : (parts k l).2.length + 1 = k) : parts k (l ++ [x]) = ((parts k l).1 ++ [(parts k l).2 ++ [x]], []) := by rw [parts_snoc, feed, if_pos h]
theorem parts_wait {k : Nat} {l : List Int} {x : Int} (h : ¬ (parts k l).2.length + 1 = k) : parts k (l ++ [x]) = ((parts k l).1, (parts k l).2 ++ [x]) := by rw [parts_snoc, feed, if_neg h]
theorem snoc_ind {P : List Int → Prop} (h0 : P []) (h1 : ∀ l x, P l → P (l ++ [x])) : ∀ l, P l := by
  intro l
  have : ∀ n, ∀ l : List Int, l.length = n → P l := by
    intro n
    induction n with
    | zero => intro l hl; rw [List.eq_nil_of_length_eq_zero hl]; exact h0
    | succ n ih =>
      intro l hl
      have hne : l ≠ [] := by intro e; subst e; cases hl
      rw [← List.dropLast_concat_getLast hne]
      exact h1 _ _ (ih _ (by rw [List.length_dropLast]; omega))
  exact this _ l rfl
theorem parts_at {k : Nat} (hk : 1 ≤ k) : ∀ l : List Int, (parts k l).2.length < k ∧ (parts k l).1.length * k + (parts k l).2.length = l.length ∧ (∀ p ∈ (parts k l).1, p.length = k) := by
  refine snoc_ind ⟨by simp [parts_nil]; omega, by simp [parts_nil], by simp [parts_nil]⟩ fun l x ⟨h1, h2, h3⟩ => ?_
  by_cases h : (parts k l).2.length + 1 = k
  · rw [parts_full h]
    refine ⟨by simp; omega, ?_, ?_⟩
    · simp only [List.length_append, List.length_singleton, List.length_nil, Nat.add_mul, Nat.one_mul]; omega
    · intro p hp
      rcases List.mem_append.1 hp with hp | hp
      · exact h3 p hp
      · rw [List.mem_singleton.1 hp, List.length_append, List.length_singleton]; exact h
  · rw [parts_wait h]
    exact ⟨by simp only [List.length_append, List.length_singleton]; omega, by simp only [List.length_append, List.length_singleton]; omega, h3⟩
theorem parts_one (l : List Int) : parts 1 l = (l.map (fun x => [x]), []) := by
  refine snoc_ind (P := fun l => parts 1 l = (l.map (fun x => [x]), [])) rfl (fun l x h => ?_) l
  rw [parts_full (by rw [h]; rfl), h]; simp
theorem parts_join {k : Nat} : ∀ l : List Int, (parts k l).1.flatten ++ (parts k l).2 = l := by
  refine snoc_ind rfl fun l x h => ?_
  by_cases h1 : (parts k l).2.length + 1 = k
  · rw [parts_full h1]; simp only [List.flatten_append, List.flatten_cons, List.flatten_nil, List.append_nil]; rw [← List.append_assoc, h]
  · rw [parts_wait h1]; simp only []; rw [← List.append_assoc, h]
def val (l : List Int) : Int := l.foldl (fun a x => a * 256 + x) 0
theorem val_one (x : Int) : val [x] = x := by simp [val]
theorem val_two (x y : Int) : val [x, y] = x * 256 + y := by simp [val]
def wide (h : Hd.H) : Nat := if 255 < h.m then 2 else 1
def chan (h : Hd.H) : Nat := if h.kd = 6 then 3 else 1
theorem wide_at (h : Hd.H) : (255 < h.m ∧ wide h = 2) ∨ (h.m ≤ 255 ∧ wide h = 1) := by unfold wide; split <;> omega
theorem chan_at (h : Hd.H) : (h.kd = 6 ∧ chan h = 3) ∨ (h.kd ≠ 6 ∧ chan h = 1) := by unfold chan; split <;> simp_all
def May (h : Hd.H) : Prop := Hd.May h ∧ 4 ≤ h.kd
theorem May.m {h : Hd.H} (H : May h) : 1 ≤ h.m ∧ h.m ≤ 65535 ∧ 1 ≤ h.w ∧ h.w ≤ 4096 ∧ 1 ≤ h.h ∧ h.h ≤ 65536 ∧ 4 ≤ h.kd ∧ h.kd ≤ 6 := by
  obtain ⟨h1, h2⟩ := H
  unfold Hd.May at h1
  omega
theorem May.one {h : Hd.H} (H : May h) (h4 : h.kd = 4) : h.m = 1 ∧ wide h = 1 ∧ chan h = 1 := by
  obtain ⟨h1, h2⟩ := H
  have h3 : h.m = 1 := by
    unfold Hd.May at h1
    have hb : Hd.bits h.kd = true := by unfold Hd.bits; rw [h4]; decide
    obtain ⟨_, _, _, _, h5⟩ := h1
    first
      | exact h5 hb
      | (rcases h5 with h5 | h5
         · exact h5
         · exact absurd hb h5)
  refine ⟨h3, ?_, ?_⟩
  · unfold wide; rw [if_neg (by omega)]
  · unfold chan; rw [if_neg (by omega)]
theorem chan_eq {h : Hd.H} (H : May h) : Hj.chan h = (chan h : Int) := by
  have := H.2
  unfold Hj.chan chan
  by_cases h6 : h.kd = 6
  · rw [if_pos (.inr h6), if_pos h6]; rfl
  · rw [if_neg (by omega), if_neg h6]; rfl
def stride (h : Hd.H) : Nat := if h.kd = 4 then ((h.w + 7) / 8).toNat else h.w.toNat * (chan h * wide h)
def smp (h : Hd.H) (r : List Int) : List Int := (parts (wide h) r).1.map val
def pk (p : List Int) : Int := (Pq.Px.packV p).1
def pxs (h : Hd.H) (l : List Int) : List Int := (parts (chan h) l).1.map pk
def rowV (h : Hd.H) (r : List Int) : List Int := if h.kd = 4 then ((Bt.bitsOf r).take h.w.toNat).map (fun x => pk [x]) else pxs h (smp h r)
def oneV (h : Hd.H) (r : List Int) : List Int := if h.kd = 4 then [] else (parts (chan h) (smp h r)).2
def bad (h : Hd.H) (r : List Int) (c : Int) : Prop := h.kd ≠ 4 ∧ (parts (wide h) r).2.length + 1 = wide h ∧ h.m < val ((parts (wide h) r).2 ++ [c])
instance (h : Hd.H) (r : List Int) (c : Int) : Decidable (bad h r c) := by unfold bad; infer_instance
theorem wide_pos (h : Hd.H) : 1 ≤ wide h := by have := wide_at h; omega
theorem chan_pos (h : Hd.H) : 1 ≤ chan h := by have := chan_at h; omega
theorem stride_at {h : Hd.H} (H : May h) : 1 ≤ stride h ∧ stride h ≤ 24576 ∧ (h.kd = 4 → ((stride h : Nat) : Int) = (h.w + 7) / 8) ∧ (h.kd ≠ 4 → ((stride h : Nat) : Int) = h.w * ((chan h : Int) * (wide h : Int))) := by
  have hm := H.m
  unfold stride
  by_cases h4 : h.kd = 4
  · rw [if_pos h4]; exact ⟨by omega, by omega, fun _ => by omega, fun h => absurd h4 h⟩
  · rw [if_neg h4]
    have hc := chan_at h
    have hw := wide_at h
    have e : ((h.w.toNat : Nat) : Int) = h.w := by omega
    refine ⟨?_, ?_, fun h => absurd h h4, fun _ => ?_⟩
    · rcases hc with ⟨_, hc⟩ | ⟨_, hc⟩ <;> rcases hw with ⟨_, hw⟩ | ⟨_, hw⟩ <;> rw [hc, hw] <;> omega
    · rcases hc with ⟨_, hc⟩ | ⟨_, hc⟩ <;> rcases hw with ⟨_, hw⟩ | ⟨_, hw⟩ <;> rw [hc, hw] <;> omega
    · rw [Int.natCast_mul, Int.natCast_mul, e]
theorem smp_len (h : Hd.H) (r : List Int) : (smp h r).length * wide h + (parts (wide h) r).2.length = r.length := by
  have := (parts_at (wide_pos h) r).2.1
  unfold smp; rw [List.length_map]; exact this
theorem pxs_len (h : Hd.H) (l : List Int) : (pxs h l).length * chan h + (parts (chan h) l).2.length = l.length := by
  have := (parts_at (chan_pos h) l).2.1
  unfold pxs; rw [List.length_map]; exact this
theorem row_len {h : Hd.H} (H : May h) (r : List Int) : (r.length < stride h → ((rowV h r).length : Int) < h.w) ∧ (r.length = stride h → ((rowV h r).length : Int) = h.w) ∧ (r.length ≤ stride h → ((rowV h r).length : Int) ≤ h.w) := by
  have hm := H.m
  have hs := stride_at H
  by_cases h4 : h.kd = 4
  · have h5 := hs.2.2.1 h4
    have e : (rowV h r).length = min h.w.toNat (8 * r.length) := by unfold rowV; rw [if_pos h4, List.length_map, List.length_take, Bt.bitsOf_len]
    rw [e]
    omega
  · have h5 := hs.2.2.2 h4
    have e : (rowV h r).length = (pxs h (smp h r)).length := by unfold rowV; rw [if_neg h4]
    rw [e]
    have a1 := smp_len h r
    have a2 := (parts_at (wide_pos h) r).1
    have a3 := pxs_len h (smp h r)
    have a4 := (parts_at (chan_pos h) (smp h r)).1
    rcases chan_at h with ⟨_, hc⟩ | ⟨_, hc⟩ <;> rcases wide_at h with ⟨_, hw⟩ | ⟨_, hw⟩ <;> simp only [hc, hw] at a1 a2 a3 a4 h5 <;> omega
theorem one_len {h : Hd.H} (r : List Int) : (oneV h r).length < chan h := by
  unfold oneV
  split
  · exact chan_pos h
  · exact (parts_at (chan_pos h) _).1
structure S where
  h : Hd.H
  cur : List Int
  rows : Int
  left : Int
  e : Int
def new (h : Hd.H) : S := ⟨h, [], 0, Hj.size h, 0⟩
def put (s : S) (c : Int) : S × List Int :=
  if s.left = 0 then (s, [])
  else if bad s.h s.cur c then (⟨s.h, s.cur, s.rows, 0, 5⟩, [])
  else if s.cur.length + 1 = stride s.h then (⟨s.h, [], s.rows + 1, s.left - 1, 0⟩, rowV s.h (s.cur ++ [c]))
  else (⟨s.h, s.cur ++ [c], s.rows, s.left - 1, 0⟩, [])
def last (s : S) : Int := if s.e ≠ 0 then 2 else if s.left = 0 then 1 else 0
theorem size_eq {h : Hd.H} (H : May h) : Hj.size h = h.h * (stride h : Int) := by
  have hs := stride_at H
  have hm := H.m
  by_cases h4 : h.kd = 4
  · rw [Hj.size_4 h4, hs.2.2.1 h4]
  · rw [Hj.size_5 (by omega), hs.2.2.2 h4, chan_eq H]
    have e : ((wide h : Nat) : Int) = if 255 < h.m then 2 else 1 := by unfold wide; split <;> rfl
    rw [← e]
    rw [Int.mul_comm h.w h.h, Int.mul_assoc, Int.mul_assoc]
structure Good (s : S) : Prop where
  may : May s.h
  cur : s.cur.length < stride s.h
  byte : ∀ x ∈ s.cur, 0 ≤ x ∧ x ≤ 255
  rows0 : 0 ≤ s.rows
  rows1 : s.rows ≤ s.h.h
  e : s.e = 0 ∨ s.e = 5
  left0 : 0 ≤ s.left
  left1 : s.e = 0 → s.left + s.rows * (stride s.h : Int) + (s.cur.length : Int) = s.h.h * (stride s.h : Int)
  left5 : s.e = 5 → s.left = 0
  smp : s.h.kd ≠ 4 → ∀ x ∈ smp s.h s.cur, 0 ≤ x ∧ x ≤ s.h.m
theorem good_new {h : Hd.H} (H : May h) : Good (new h) := by
  have hm := H.m
  have hs := stride_at H
  have h0 : 0 ≤ h.h * (stride h : Int) := Int.mul_nonneg (by omega) (by omega)
  exact ⟨H, hs.1, (fun x hx => by cases hx), Int.le_refl _, by show (0 : Int) ≤ h.h; omega, .inl rfl, by show 0 ≤ Hj.size h; rw [size_eq H]; exact h0, (fun _ => by show Hj.size h + 0 * (stride h : Int) + ((0 : Nat) : Int) = h.h * (stride h : Int); rw [size_eq H]; omega), (fun h => by cases h), (fun _ x hx => by cases hx)⟩
theorem smp_more {h : Hd.H} {r : List Int} {c : Int} (H : (parts (wide h) r).2.length + 1 = wide h) : smp h (r ++ [c]) = smp h r ++ [val ((parts (wide h) r).2 ++ [c])] := by unfold smp; rw [parts_full H]; simp
theorem smp_wait {h : Hd.H} {r : List Int} {c : Int} (H : ¬ (parts (wide h) r).2.length + 1 = wide h) : smp h (r ++ [c]) = smp h r := by unfold smp; rw [parts_wait H]
theorem wait_in {h : Hd.H} {r : List Int} (hr : ∀ x ∈ r, 0 ≤ x ∧ x ≤ 255) : (parts (wide h) r).2 = [] ∨ ∃ x, (parts (wide h) r).2 = [x] ∧ 0 ≤ x ∧ x ≤ 255 ∧ wide h = 2 := by
  have h1 := (parts_at (wide_pos h) r).1
  have h2 := parts_join (k := wide h) r
  obtain ⟨l, hl⟩ : ∃ l, (parts (wide h) r).2 = l := ⟨_, rfl⟩
  rw [hl] at h1 h2 ⊢
  have hw := wide_at h
  match l, h1, h2 with
  | [], _, _ => exact .inl rfl
  | [x], h1, h2 =>
    have hx := hr x (by rw [← h2]; simp)
    exact .inr ⟨x, rfl, hx.1, hx.2, by simp at h1; omega⟩
  | x :: y :: l, h1, _ => simp at h1; omega
theorem good_put {s : S} (G : Good s) (c : Int) (c0 : 0 ≤ c) (c1 : c ≤ 255) : Good (put s c).1 := by
  have hm := G.may.m
  have hs := stride_at G.may
  have hb : ∀ x ∈ s.cur ++ [c], 0 ≤ x ∧ x ≤ 255 := fun x hx => by
    rcases List.mem_append.1 hx with hx | hx
    · exact G.byte x hx
    · rw [List.mem_singleton.1 hx]; exact ⟨c0, c1⟩
  unfold put
  split
  · exact G
  rename_i h0
  have e0 : s.e = 0 := by
    rcases G.e with h | h
    · exact h
    · exact absurd (G.left5 h) h0
  have hl := G.left1 e0
  have hl0 := G.left0
  split
  · exact ⟨G.may, G.cur, G.byte, G.rows0, G.rows1, .inr rfl, Int.le_refl _, (fun h => by cases h), fun _ => rfl, G.smp⟩
  rename_i h1
  split
  · rename_i h2
    refine ⟨G.may, hs.1, (fun x hx => by cases hx), by show 0 ≤ s.rows + 1; have := G.rows0; omega, ?_, .inl rfl, by show 0 ≤ s.left - 1; omega, fun _ => ?_, (fun h => by cases h), (fun _ x hx => by cases hx)⟩
    · show s.rows + 1 ≤ s.h.h
      have hp : (1 : Int) ≤ (stride s.h : Int) := by omega
      apply Int.not_lt.1
      intro hn
      have h3 : s.h.h ≤ s.rows := by omega
      have h4 : s.h.h * (stride s.h : Int) ≤ s.rows * (stride s.h : Int) := Int.mul_le_mul_of_nonneg_right h3 (by omega)
      omega
    · show s.left - 1 + (s.rows + 1) * (stride s.h : Int) + ((0 : Nat) : Int) = s.h.h * (stride s.h : Int)
      rw [Int.add_mul, Int.one_mul]; omega
  · rename_i h2
    refine ⟨G.may, by show (s.cur ++ [c]).length < stride s.h; rw [List.length_append, List.length_singleton]; have := G.cur; omega, hb, G.rows0, G.rows1, .inl rfl, by show 0 ≤ s.left - 1; omega, fun _ => ?_, (fun h => by cases h), fun h4 x hx => ?_⟩
    · show s.left - 1 + s.rows * (stride s.h : Int) + (((s.cur ++ [c]).length : Nat) : Int) = s.h.h * (stride s.h : Int)
      rw [List.length_append, List.length_singleton]; omega
    · replace hx : x ∈ smp s.h (s.cur ++ [c]) := hx
      by_cases hf : (parts (wide s.h) s.cur).2.length + 1 = wide s.h
      · rw [smp_more hf] at hx
        rcases List.mem_append.1 hx with hx | hx
        · exact G.smp h4 x hx
        · rw [List.mem_singleton.1 hx]
          refine ⟨?_, Int.not_lt.1 fun hn => h1 ⟨h4, hf, hn⟩⟩
          rcases wait_in (h := s.h) G.byte with e | ⟨y, e, y0, y1, _⟩
          · rw [e]; simp [val_one]; exact c0
          · rw [e]; show 0 ≤ val [y, c]; rw [val_two]; omega
      · rw [smp_wait hf] at hx; exact G.smp h4 x hx
end Rw
end Go.Proofs.YtkjkepnailamnaaGreat
namespace Go.Proofs.YtkjkepnailamnaaGreat
open Go.RowKit
set_option linter.unusedVariables false
namespace Pl
structure S where
  h : Hd.H
  n : Int
  d : Bool
  one : List Int
  row : List Int
  rows : Int
  last : Int
  e : Int
def new (h : Hd.H) : S := ⟨h, 0, false, [], [], 0, 0, 0⟩
def wrong (s : S) (e : Int) : S := ⟨s.h, s.n, s.d, s.one, s.row, s.rows, 2, e⟩
def pix (s : S) (n : Int) : Int := (Pq.Px.packV (s.one ++ [n])).1
def more (s : S) (n : Int) : S := ⟨s.h, 0, false, s.one ++ [n], s.row, s.rows, 0, 0⟩
def pixel (s : S) (n : Int) : S := ⟨s.h, 0, false, [], s.row ++ [pix s n], s.rows, 0, 0⟩
def line (s : S) (n : Int) : S := ⟨s.h, 0, false, [], [], s.rows + 1, if s.rows + 1 = s.h.h then 1 else 0, 0⟩
def sample (s : S) (n : Int) : S × List Int :=
  if (s.one.length : Int) + 1 < Hj.chan s.h then (more s n, [])
  else if (s.row.length : Int) + 1 < s.h.w then (pixel s n, [])
  else (line s n, s.row ++ [pix s n])
def digit (s : S) (n : Int) : S := ⟨s.h, n, true, s.one, s.row, s.rows, 0, 0⟩
def put (s : S) (c : Int) : S × List Int :=
  if s.last ≠ 0 then (s, [])
  else if Tk.blank c = true then (if s.d = true then sample s s.n else (s, []))
  else if s.h.kd = 1 then (if c = 48 ∨ c = 49 then sample s (c - 48) else (wrong s 3, []))
  else if (Nu.stepV s.n c s.h.m).2 = 0 then (digit s (Nu.stepV s.n c s.h.m).1, [])
  else (wrong s (if (Nu.stepV s.n c s.h.m).2 = 4 then 5 else (Nu.stepV s.n c s.h.m).2), [])
def fin (s : S) : S × List Int :=
  if (put s 32).1.last = 0 then (wrong (put s 32).1 6, (put s 32).2) else put s 32
def May (h : Hd.H) : Prop := Hd.May h ∧ h.kd ≤ 3
structure Good (s : S) : Prop where
  may : May s.h
  n0 : 0 ≤ s.n
  n1 : s.n ≤ s.h.m
  nd : s.d = false → s.n = 0
  kd : s.h.kd = 1 → s.d = false
  one : (s.one.length : Int) < Hj.chan s.h
  oneIn : ∀ x ∈ s.one, 0 ≤ x ∧ x ≤ s.h.m
  row : (s.row.length : Int) < s.h.w
  rows0 : 0 ≤ s.rows
  rows1 : s.last = 0 → s.rows < s.h.h
  rows2 : s.rows ≤ s.h.h
  last : s.last = 0 ∨ s.last = 1 ∨ s.last = 2
  e0 : s.last ≠ 2 → s.e = 0
  e2 : s.last = 2 → s.e = 3 ∨ s.e = 5 ∨ s.e = 6
theorem May.m {h : Hd.H} (H : May h) : 1 ≤ h.m ∧ h.m ≤ 65535 ∧ 1 ≤ h.w ∧ h.w ≤ 4096 ∧ 1 ≤ h.h ∧ h.h ≤ 65536 ∧ 1 ≤ h.kd ∧ h.kd ≤ 3 := by
  obtain ⟨h1, h2⟩ := H
  unfold Hd.May at h1
  omega
theorem good_new {h : Hd.H} (H : May h) : Good (new h) := by
  have := H.m
  have hc := Hj.chan_at h
  exact ⟨H, Int.le_refl _, by show (0 : Int) ≤ h.m; omega, fun _ => rfl, fun _ => rfl, by show ((0 : Nat) : Int) < Hj.chan h; omega, (fun x hx => by cases hx), by show ((0 : Nat) : Int) < h.w; omega, Int.le_refl _, fun _ => by show (0 : Int) < h.h; omega, by show (0 : Int) ≤ h.h; omega, .inl rfl, fun _ => rfl, (fun h => absurd h (show ¬ (0 : Int) = 2 by decide))⟩
theorem good_wrong {s : S} (H : Good s) {e : Int} (he : e = 3 ∨ e = 5 ∨ e = 6) : Good (wrong s e) :=
  ⟨H.may, H.n0, H.n1, H.nd, H.kd, H.one, H.oneIn, H.row, H.rows0, (fun h => absurd h (show ¬ (2 : Int) = 0 by decide)), H.rows2, .inr (.inr rfl), fun h => absurd rfl h, fun _ => he⟩
theorem good_sample {s : S} (H : Good s) (h0 : s.last = 0) (n : Int) (n0 : 0 ≤ n) (n1 : n ≤ s.h.m) : Good (sample s n).1 := by
  have hm := H.may.m
  have hc := Hj.chan_at s.h
  have hr := H.rows1 h0
  have hr0 := H.rows0
  have ho := H.one
  have hw := H.row
  unfold sample
  split
  · rename_i h1
    exact ⟨H.may, Int.le_refl _, by show (0 : Int) ≤ s.h.m; omega, fun _ => rfl, fun _ => rfl, by show (((s.one ++ [n]).length : Nat) : Int) < Hj.chan s.h; rw [List.length_append, List.length_singleton]; omega, (fun x hx => by
      rcases List.mem_append.1 hx with hx | hx
      · exact H.oneIn x hx
      · rw [List.mem_singleton.1 hx]; exact ⟨n0, n1⟩), H.row, H.rows0, fun _ => hr, H.rows2, .inl rfl, fun _ => rfl, (fun h => absurd h (show ¬ (0 : Int) = 2 by decide))⟩
  split
  · rename_i h1 h2
    exact ⟨H.may, Int.le_refl _, by show (0 : Int) ≤ s.h.m; omega, fun _ => rfl, fun _ => rfl, by show ((0 : Nat) : Int) < Hj.chan s.h; omega, (fun x hx => by cases hx), by show (((s.row ++ [pix s n]).length : Nat) : Int) < s.h.w; rw [List.length_append, List.length_singleton]; omega, H.rows0, fun _ => hr, H.rows2, .inl rfl, fun _ => rfl, (fun h => absurd h (show ¬ (0 : Int) = 2 by decide))⟩
  · refine ⟨H.may, Int.le_refl _, by show (0 : Int) ≤ s.h.m; omega, fun _ => rfl, fun _ => rfl, by show ((0 : Nat) : Int) < Hj.chan s.h; omega, (fun x hx => by cases hx), by show ((0 : Nat) : Int) < s.h.w; omega, by show 0 ≤ s.rows + 1; omega, ?_, by show s.rows + 1 ≤ s.h.h; omega, ?_, fun _ => rfl, ?_⟩
    · intro h
      have h : (if s.rows + 1 = s.h.h then (1 : Int) else 0) = 0 := h
      show s.rows + 1 < s.h.h
      split at h
      · cases h
      · omega
    · show (if s.rows + 1 = s.h.h then (1 : Int) else 0) = 0 ∨ (if s.rows + 1 = s.h.h then (1 : Int) else 0) = 1 ∨ _
      split
      · exact .inr (.inl rfl)
      · exact .inl rfl
    · intro h
      have h : (if s.rows + 1 = s.h.h then (1 : Int) else 0) = 2 := h
      split at h <;> cases h
theorem good_put {s : S} (H : Good s) (c : Int) : Good (put s c).1 := by
  have hm := H.may.m
  unfold put
  split
  · exact H
  rename_i h0
  have h0 : s.last = 0 := by omega
  split
  · split
    · exact good_sample H h0 s.n H.n0 H.n1
    · exact H
  split
  · split
    · exact good_sample H h0 (c - 48) (by omega) (by omega)
    · exact good_wrong H (.inl rfl)
  rename_i hk
  split
  · rename_i he
    obtain ⟨g1, g2⟩ := Nu.stepV_le s.n c s.h.m H.n0 H.n1 he
    exact ⟨H.may, g1, g2, (fun h => absurd h (show ¬ true = false by decide)), (fun h => absurd h hk), H.one, H.oneIn, H.row, H.rows0, (fun _ => H.rows1 h0), H.rows2, .inl rfl, fun _ => rfl, (fun h => absurd h (show ¬ (0 : Int) = 2 by decide))⟩
  · rename_i he
    refine good_wrong H ?_
    have := Tk.stepV_e s.n c s.h.m
    split <;> omega
end Pl
end Go.Proofs.YtkjkepnailamnaaGreat
namespace Go.Proofs.YtkjkepnailamnaaGreat
open Go.RowKit
set_option linter.unusedVariables false
theorem app_none {P : Program} {w : World} (base : Nat) (t ty e : TypeId) (i : TypeInfo) (size : Nat) (ht : P.underlying t = some (.slice e)) (hi : P.info? e = some i)
    (v : Value) (n c : Nat) (xs : List Value) (hown : w.ownsRow base e size v n xs) :
    (Builtin.append_ #[t, t] ty #[v, .slice none 0 c]).run P w = .ok v w := by
  rcases hown.2 with ⟨rfl, rfl⟩ | ⟨g, cap, cur, rfl, _, _, hnc, _⟩
  · simp [Builtin.append_, run_underlying ht, sizeOf, typeInfo, hi, Builtin.lenOf, Builtin.firstCells]
  · simp [Builtin.append_, run_underlying ht, sizeOf, typeInfo, hi, Builtin.lenOf, Builtin.firstCells, hnc, storeCells]
theorem ints_one (q : IntKind) (l : List Int) : ∀ u ∈ l.map (Value.int q), u.oneCell' = true := by
  intro u hu; obtain ⟨x, _, rfl⟩ := List.mem_map.1 hu; rfl
theorem run_app {P : Program} {w : World} (base : Nat) (t ty e : TypeId) (i : TypeInfo) (q : IntKind) (bytes : Nat) (ht : P.underlying t = some (.slice e)) (hi : P.info? e = some i) (hz : i.zero = some (.int q 0))
    (hsize : i.size = 1) (hby : i.bytes = bytes) (v : Value) (n : Nat) (xs : List Value) (hown : w.ownsRow base e 1 v n xs)
    (a : Option Addr) (m c : Nat) (l : List Int) (hy : SlK q w a m l) (h63 : n + m ≤ maxLen) (hbytes : (n + m) * bytes ≤ 140737488355328) (hbase : base ≤ w.heap.size) :
    ∃ v' w', (Builtin.append_ #[t, t] ty #[v, .slice a m c]).run P w = .ok v' w' ∧ w'.ownsRow base e 1 v' (n + m) (xs ++ l.map (Value.int q)) ∧ w.grownBy w' v.ownBlock ∧ (v'.ownBlock = v.ownBlock ∨ v'.ownBlock = some w.heap.size) := by
  obtain ⟨hl, hc⟩ := hy
  cases a with
  | none =>
    have hm : m = 0 := by
      rcases hc with h | ⟨_, _, h, _⟩
      · exact h
      · cases h
    subst hm
    have hl0 : l = [] := List.length_eq_zero_iff.1 hl
    subst hl0
    exact ⟨v, w, app_none base t ty e i 1 ht hi v n c xs hown, by simpa using hown, ⟨rfl, rfl, rfl, Nat.le_refl _, fun _ _ _ => rfl⟩, .inl rfl⟩
  | some ad =>
    obtain ⟨v', w', h1, h2, h3, _, h5⟩ := run_append_own_at (P := P) w base t ty e i (.int q 0) 1 bytes ht hi hz hsize hby rfl (by decide) v n xs hown ad m c (l.map (Value.int q)) (by rw [List.length_map, hl, Nat.mul_one]) (fun j u hu => by
      have hj : j < m := by
        rcases Nat.lt_or_ge j m with h | h
        · exact h
        · rw [List.getElem?_eq_none (by rw [List.length_map]; omega)] at hu; cases hu
      rcases hc with h | ⟨blk, off, ha, hcell⟩
      · omega
      · cases ha
        rw [addrK_add, hcell j hj]
        rw [List.getElem?_map, List.getElem?_eq_getElem (by omega)] at hu
        rw [List.getD_eq_getElem?_getD, List.getElem?_eq_getElem (by omega)]
        exact hu) (ints_one q l) h63 hbytes hbase
    exact ⟨v', w', h1, h2, h3, h5⟩
theorem wpList_app {P : Program} {w : World} {ops : Array Oper} {rest : List Oper} {o : Oper} {a : Act} {Q : Exit → Act → World → Prop} (hgd : o.guard = none) (s x : Operand) (t : TypeId)
    (ho : o.op = .call { callee := .builtin .append, args := #[s, x], argTypes := #[t, t] })
    (base : Nat) (e : TypeId) (i : TypeInfo) (q : IntKind) (bytes : Nat) (ht : P.underlying t = some (.slice e)) (hi : P.info? e = some i) (hz : i.zero = some (.int q 0))
    (hsize : i.size = 1) (hby : i.bytes = bytes) (v : Value) (n : Nat) (xs : List Value) (hs : a.eval s = v) (hown : w.ownsRow base e 1 v n xs)
    (ad : Option Addr) (m c : Nat) (l : List Int) (hx : a.eval x = .slice ad m c) (hy : SlK q w ad m l) (h63 : n + m ≤ maxLen) (hbytes : (n + m) * bytes ≤ 140737488355328) (hbase : base ≤ w.heap.size)
    (h : ∀ v' w', w'.ownsRow base e 1 v' (n + m) (xs ++ l.map (Value.int q)) → w.grownBy w' v.ownBlock → (v'.ownBlock = v.ownBlock ∨ v'.ownBlock = some w.heap.size) → wpList P ops Q rest (a.put o.dst v') w') : wpList P ops Q (o :: rest) a w := by
  refine wpList_plain hgd fun K hK => ?_
  obtain ⟨v', w', hr, h2, h3, h4⟩ := run_app (P := P) (w := w) base t o.type e i q bytes ht hi hz hsize hby v n xs hown ad m c l hy h63 hbytes hbase
  unfold Oper.wp execOp
  simp only [ho, resolve, invoke, builtin, Sem.run_bind, Sem.run_pure, Result.andThen_ok, List.map_toArray, List.map_cons, List.map_nil, hs, hx, hr]
  exact hK _ _ (h v' w' h2 h3 h4)
end Go.Proofs.YtkjkepnailamnaaGreat
namespace Go.Proofs.YtkjkepnailamnaaGreat
open Go.RowKit
set_option linter.unusedVariables false
namespace Rw
def rest (h : Hd.H) (r : List Int) : List Int := (parts (wide h) r).2
theorem row4 {h : Hd.H} (H : May h) (h4 : h.kd = 4) {r : List Int} (hr : r.length < stride h) (c : Int) {v : Nat} (hv : min 8 (h.w - ((rowV h r).length : Int)) = (v : Int)) : rowV h (r ++ [c]) = rowV h r ++ ((Bt.eight c).take v).map (fun x => pk [x]) := by
  have hs := stride_at H
  have hm := H.m
  have h5 := hs.2.2.1 h4
  have e : (rowV h r).length = min h.w.toNat (8 * r.length) := by unfold rowV; rw [if_pos h4, List.length_map, List.length_take, Bt.bitsOf_len]
  have e8 : (rowV h r).length = 8 * r.length := by rw [e]; omega
  rw [e8] at hv
  unfold rowV
  rw [if_pos h4, if_pos h4, Bt.bitsOf_append, ← List.map_append]
  congr 1
  rw [List.take_append, Bt.bitsOf_len]
  congr 1
  show List.take _ (Bt.eight c ++ []) = _
  rw [List.append_nil]
  by_cases h8 : 8 ≤ h.w.toNat - 8 * r.length
  · rw [List.take_of_length_le (by rw [Bt.eight_len]; exact h8), List.take_of_length_le (by rw [Bt.eight_len]; omega)]
  · congr 1; omega
theorem row_wait {h : Hd.H} (h4 : h.kd ≠ 4) {r : List Int} {c : Int} (hf : ¬ (rest h r).length + 1 = wide h) : rowV h (r ++ [c]) = rowV h r ∧ oneV h (r ++ [c]) = oneV h r ∧ rest h (r ++ [c]) = rest h r ++ [c] := by
  unfold rowV oneV
  rw [if_neg h4, if_neg h4, if_neg h4, if_neg h4, smp_wait hf]
  refine ⟨rfl, rfl, ?_⟩
  unfold rest; rw [parts_wait hf]
theorem row_more {h : Hd.H} (h4 : h.kd ≠ 4) {r : List Int} {c : Int} (hf : (rest h r).length + 1 = wide h) (ho : ¬ (oneV h r).length + 1 = chan h) : rowV h (r ++ [c]) = rowV h r ∧ oneV h (r ++ [c]) = oneV h r ++ [val (rest h r ++ [c])] ∧ rest h (r ++ [c]) = [] := by
  unfold oneV at ho
  rw [if_neg h4] at ho
  unfold rowV oneV pxs
  rw [if_neg h4, if_neg h4, if_neg h4, if_neg h4, smp_more hf, parts_wait ho]
  refine ⟨rfl, rfl, ?_⟩
  unfold rest; rw [parts_full hf]
theorem row_pix {h : Hd.H} (h4 : h.kd ≠ 4) {r : List Int} {c : Int} (hf : (rest h r).length + 1 = wide h) (ho : (oneV h r).length + 1 = chan h) : rowV h (r ++ [c]) = rowV h r ++ [pk (oneV h r ++ [val (rest h r ++ [c])])] ∧ oneV h (r ++ [c]) = [] ∧ rest h (r ++ [c]) = [] := by
  unfold oneV at ho
  rw [if_neg h4] at ho
  unfold rowV oneV pxs
  rw [if_neg h4, if_neg h4, if_neg h4, if_neg h4, smp_more hf, parts_full ho]
  refine ⟨?_, rfl, ?_⟩
  · rw [List.map_append]; rfl
  · unfold rest; rw [parts_full hf]
theorem row_end {h : Hd.H} (H : May h) {r : List Int} (hr : r.length = stride h) : oneV h r = [] ∧ (h.kd ≠ 4 → rest h r = []) := by
  have hm := H.m
  have hs := stride_at H
  by_cases h4 : h.kd = 4
  · exact ⟨by unfold oneV; rw [if_pos h4], fun h => absurd h4 h⟩
  · have h5 := hs.2.2.2 h4
    have a1 := smp_len h r
    have a2 := (parts_at (wide_pos h) r).1
    have a3 := pxs_len h (smp h r)
    have a4 := (parts_at (chan_pos h) (smp h r)).1
    have e1 : (parts (wide h) r).2.length = 0 := by rcases chan_at h with ⟨_, hc⟩ | ⟨_, hc⟩ <;> rcases wide_at h with ⟨_, hw⟩ | ⟨_, hw⟩ <;> simp only [hc, hw] at a1 a2 a3 a4 h5 ⊢ <;> omega
    have e2 : (parts (chan h) (smp h r)).2.length = 0 := by rcases chan_at h with ⟨_, hc⟩ | ⟨_, hc⟩ <;> rcases wide_at h with ⟨_, hw⟩ | ⟨_, hw⟩ <;> simp only [hc, hw] at a1 a2 a3 a4 h5 ⊢ <;> omega
    exact ⟨by unfold oneV; rw [if_neg h4]; exact List.eq_nil_of_length_eq_zero e2, fun _ => List.eq_nil_of_length_eq_zero e1⟩
theorem rowV_nil (h : Hd.H) : rowV h [] = [] := by
  unfold rowV
  split
  · simp [Bt.bitsOf]
  · rfl
theorem oneV_nil (h : Hd.H) : oneV h [] = [] := by unfold oneV; split <;> rfl
end Rw
end Go.Proofs.YtkjkepnailamnaaGreat
namespace Go.Proofs.YtkjkepnailamnaaGreat
open Go.RowKit
set_option linter.unusedVariables false
namespace Su
theorem ret_b {a b : Bool} (h : a = b) : Ending.returned (.bool a) = .returned (.bool b) := by rw [h]
theorem below_drewN {B : Nat} {a w : World} (h : Below B a w) (n : Nat) : Below B a (w.drewN n) := ⟨h.os, h.tape, h.output, h.size, h.block⟩
def Alike (x y : List Int) (k : Nat) : Prop := ∀ i, i < k → x.getD i 0 = y.getD i 0
theorem alike_all {x y : List Int} {n : Nat} (hx : x.length = n) (hy : y.length = n) (h : Alike x y n) : x = y := by
  refine List.ext_getElem (by rw [hx, hy]) fun i h1 h2 => ?_
  have := h i (by omega)
  rw [List.getD_eq_getElem?_getD, List.getD_eq_getElem?_getD, List.getElem?_eq_getElem h1, List.getElem?_eq_getElem h2] at this
  simpa using this
theorem alike_succ {x y : List Int} {k : Nat} (h : Alike x y k) (e : x.getD k 0 = y.getD k 0) : Alike x y (k + 1) := fun i hi => by
  rcases Nat.lt_or_ge i k with h1 | h1
  · exact h i h1
  · obtain rfl : i = k := by omega
    exact e
set_option maxHeartbeats 1000000 in
theorem sameRow_any (a b : Option Addr) (n m ca cb : Nat) (x y : List Int) (w : World) (hn : n ≤ 9223372036854775807) (ha : SlK .u64 w a n x) (hb : SlK .u64 w b m y) :
    Calls Tryz.prog 85 #[.slice a n ca, .slice b m cb] w fun e w' => e = .returned (.bool (decide (x = y))) ∧ Below w.heap.size w w' := by
  by_cases h : n = m
  · subst h
    obtain ⟨lx, ha⟩ := ha
    obtain ⟨ly, hb⟩ := hb
    have LX := Lib.hid lx; clear lx
    have LY := Lib.hid ly; clear ly
    by_cases h0 : n = 0
    · subst h0
      have X := Lib.hid (show decide (x = y) = true by rw [decide_eq_true_iff, List.eq_nil_of_length_eq_zero LX.out, List.eq_nil_of_length_eq_zero LY.out])
      clear ha hb
      go_enter Tryz.func85, Tryz.ntmps85
      go_wp2
      go_rounds 1
      go_ret
      exact ⟨ret_b X.out.symm, Below.refl _ _⟩
    · rcases ha with ha | ⟨ba, oa, rfl, ha⟩
      · omega
      rcases hb with hb | ⟨bb, ob, rfl, hb⟩
      · omega
      have HA := Lib.hid ha; clear ha
      have HB := Lib.hid hb; clear hb
      go_enter Tryz.func85, Tryz.ntmps85
      go_wp2
      go_loopw [5] (fun i wr => ∃ k q : Nat, k ≤ n ∧ i = .int .i64 k ∧ Alike x y k ∧ wr = w.drewN q) (fun i _ => n - (intOf i).toNat)
      case atStart => exact ⟨0, 0, Nat.zero_le _, rfl, (fun i hi => by omega), rfl⟩
      case round =>
        obtain ⟨k, q, hk, rfl, hal, rfl⟩ := hrel
        by_cases hlt : k < n
        · have hx := HA.out k hlt
          have hy := HB.out k hlt
          obtain ⟨u, hu⟩ : ∃ u, x.getD k 0 = u := ⟨_, rfl⟩
          obtain ⟨v, hv⟩ : ∃ v, y.getD k 0 = v := ⟨_, rfl⟩
          rw [hu] at hx; rw [hv] at hy
          have HU := Lib.hid hu; clear hu
          have HV := Lib.hid hv; clear hv
          have i0 : (0 : Int) ≤ (k : Int) := Int.natCast_nonneg _
          have i1 : (k : Int) < (n : Int) := by omega
          by_cases huv : u = v
          · subst huv
            go_wp2_with (go_quiet (fail))
            go_roundw
            case rel => exact ⟨k + 1, _, by omega, by go_num, alike_succ hal (by rw [HU.out, HV.out]), rfl⟩
            case measure => simp [intOf]; omega
          · have kk : (u != v) = true := by rw [bne_iff_ne]; exact huv
            have X := Lib.hid (show decide (x = y) = false by rw [decide_eq_false_iff_not]; intro e; apply huv; rw [← HU.out, ← HV.out, e])
            go_wp2_with (go_quiet (fail))
            go_ret
            exact ⟨ret_b X.out.symm, below_drewN (below_drewN (Below.refl _ _) _) _⟩
        · obtain rfl : k = n := by omega
          have X := Lib.hid (show decide (x = y) = true by rw [decide_eq_true_iff]; exact alike_all LX.out LY.out hal)
          go_wp2
          go_ret
          exact ⟨ret_b X.out.symm, below_drewN (Below.refl _ _) _⟩
  · have X := Lib.hid (show decide (x = y) = false by rw [decide_eq_false_iff_not]; intro e; apply h; rw [← ha.1, ← hb.1, e])
    have k : ((n : Int) != m) = true := by simp; omega
    go_enter Tryz.func85, Tryz.ntmps85
    go_wp2
    go_ret
    exact ⟨ret_b X.out.symm, Below.refl _ _⟩
end Su
end Go.Proofs.YtkjkepnailamnaaGreat
namespace Go.Proofs.YtkjkepnailamnaaGreat
open Go.RowKit
set_option linter.unusedVariables false
namespace Pq
def IsRow (k : IntKind) (w : World) (a : Option Addr) (len cap : Nat) (zs : List Int) : Prop :=
  (a = none ∧ len = 0 ∧ cap = 0 ∧ zs = []) ∨
  ∃ x, a = some x ∧ len ≤ cap ∧ cap ≤ maxLen ∧ zs.length = cap ∧ (∀ i, i < zs.length → w.cell? (x.add i) = some (.int k (zs.getD i 0))) ∧ ∀ n ∈ zs, (Lit.int k n).wf = true
theorem isrow_len {k : IntKind} {w : World} {a : Option Addr} {len cap : Nat} {zs : List Int} (h : IsRow k w a len cap zs) : len ≤ 9223372036854775807 ∧ len ≤ zs.length ∧ len ≤ cap ∧ cap ≤ 9223372036854775807 := by
  rcases h with ⟨_, rfl, rfl, rfl⟩ | ⟨x, _, h1, h2, h3, _⟩
  · simp
  · unfold maxLen at h2; omega
end Pq
end Go.Proofs.YtkjkepnailamnaaGreat
namespace Go.Proofs.YtkjkepnailamnaaGreat
open Go.RowKit
set_option linter.unusedVariables false
attribute [local go_sem ↓] Go.wp_at_zero Go.wp_at_succ
namespace Pq
set_option maxHeartbeats 2000000 in
theorem good33 (b o cap n : Nat) (x y z m : Int) (hn : 3 ≤ n) (hn' : n ≤ 9223372036854775807) (hx : Px.I x) (hy : Px.I y) (hz : Px.I z) (m0 : 0 ≤ m) (m1 : m ≤ 65535) (w : World) (c0 : w.cell? ⟨b, o, none⟩ = some (.int .i64 x)) (c1 : w.cell? ⟨b, o + 1, none⟩ = some (.int .i64 y)) (c2 : w.cell? ⟨b, o + 2, none⟩ = some (.int .i64 z)) :
    Calls Tryz.prog 51 #[.slice (some ⟨b, o, none⟩) n cap, .agg #[.int .i64 3, .int .i64 m]] w fun e w' => e = .returned (.int .u64 (Px.packV [Px.aroundV x (m + 1), Px.aroundV y (m + 1), Px.aroundV z (m + 1)]).1) ∧ Below w.heap.size w w' := by
  have hmk : ∀ w, (Instr.makeSlice 25 (.int .i64 3) (.int .i64 3)).run Tryz.prog w = .ok (.slice (some ⟨w.heap.size, 0, none⟩) 3 3) (w.alloc (.cells #[.int .i64 0, .int .i64 0, .int .i64 0] 3)) := fun _ => by kernel_rfl
  have hwr : IntKind.i64.wrap (m + 1) = m + 1 := IntWalk.i64_in _ (by omega)
  have n0 : (0 : Int) < n := by omega
  have n1 : (1 : Int) < n := by omega
  have n2 : (2 : Int) < n := by omega
  have hb : b < w.heap.size := block_lt_of_cell c0
  obtain ⟨x', hx'⟩ : ∃ v, Px.aroundV x (m + 1) = v := ⟨_, rfl⟩
  have HX := Lib.hid hx'; clear hx'
  obtain ⟨y', hy'⟩ : ∃ v, Px.aroundV y (m + 1) = v := ⟨_, rfl⟩
  have HY := Lib.hid hy'; clear hy'
  obtain ⟨z', hz'⟩ : ∃ v, Px.aroundV z (m + 1) = v := ⟨_, rfl⟩
  have HZ := Lib.hid hz'; clear hz'
  rw [HX.out, HY.out, HZ.out]
  go_enter Tryz.func51, Tryz.ntmps51
  go_wp2
  refine wp_loop_rounds 4 ?_
  rw [rounds_succ]
  go_wp2
  go_region_held3 (fun w' => w'.cell? ⟨b, o, none⟩ = some (.int .i64 x) ∧ w'.cell? ⟨b, o + 1, none⟩ = some (.int .i64 y) ∧ w'.cell? ⟨b, o + 2, none⟩ = some (.int .i64 z) ∧ w'.cell? ⟨w.heap.size, 1, none⟩ = some (.int .i64 m)) (go_keep)
    (first | (go_at_call 15; refine (around_any _ _ hx (by omega) (by omega) _).mono ?_; rw [HX.out]; rintro e w9 ⟨rfl, rfl⟩))
  go_wp2
  rw [rounds_succ]
  go_wp2
  go_region_held3 (fun w' => w'.cell? ⟨b, o, none⟩ = some (.int .i64 x) ∧ w'.cell? ⟨b, o + 1, none⟩ = some (.int .i64 y) ∧ w'.cell? ⟨b, o + 2, none⟩ = some (.int .i64 z) ∧ w'.cell? ⟨w.heap.size, 1, none⟩ = some (.int .i64 m)) (go_keep)
    (first | (go_at_call 15; refine (around_any _ _ hy (by omega) (by omega) _).mono ?_; rw [HY.out]; rintro e w9 ⟨rfl, rfl⟩))
  go_wp2
  rw [rounds_succ]
  go_wp2
  go_region_held3 (fun w' => w'.cell? ⟨b, o, none⟩ = some (.int .i64 x) ∧ w'.cell? ⟨b, o + 1, none⟩ = some (.int .i64 y) ∧ w'.cell? ⟨b, o + 2, none⟩ = some (.int .i64 z) ∧ w'.cell? ⟨w.heap.size, 1, none⟩ = some (.int .i64 m)) (go_keep)
    (first | (go_at_call 15; refine (around_any _ _ hz (by omega) (by omega) _).mono ?_; rw [HZ.out]; rintro e w9 ⟨rfl, rfl⟩))
  go_wp2
  rw [rounds_succ]
  go_wp2_with (go_at_call 75; refine (refPack_any _ _ _ [x', y', z'] _ (by omega) ?_).mono ?_; (exact sl3 (by simp [go_sem]) (by simp [go_sem]) (by simp [go_sem])); rintro e w9 ⟨rfl, rfl⟩)
  go_ret
  exact ⟨rfl, by go_grown⟩
set_option maxHeartbeats 2000000 in
theorem good32 (b o cap : Nat) (x y m : Int) (hx : Px.I x) (hy : Px.I y) (m0 : 0 ≤ m) (m1 : m ≤ 65535) (w : World) (c0 : w.cell? ⟨b, o, none⟩ = some (.int .i64 x)) (c1 : w.cell? ⟨b, o + 1, none⟩ = some (.int .i64 y)) :
    Calls Tryz.prog 51 #[.slice (some ⟨b, o, none⟩) 2 cap, .agg #[.int .i64 3, .int .i64 m]] w fun e w' => e = .returned (.int .u64 (Px.packV [Px.aroundV x (m + 1), Px.aroundV y (m + 1), 0]).1) ∧ Below w.heap.size w w' := by
  have hmk : ∀ w, (Instr.makeSlice 25 (.int .i64 3) (.int .i64 3)).run Tryz.prog w = .ok (.slice (some ⟨w.heap.size, 0, none⟩) 3 3) (w.alloc (.cells #[.int .i64 0, .int .i64 0, .int .i64 0] 3)) := fun _ => by kernel_rfl
  have hwr : IntKind.i64.wrap (m + 1) = m + 1 := IntWalk.i64_in _ (by omega)
  have hb : b < w.heap.size := block_lt_of_cell c0
  obtain ⟨x', hx'⟩ : ∃ v, Px.aroundV x (m + 1) = v := ⟨_, rfl⟩
  have HX := Lib.hid hx'; clear hx'
  obtain ⟨y', hy'⟩ : ∃ v, Px.aroundV y (m + 1) = v := ⟨_, rfl⟩
  have HY := Lib.hid hy'; clear hy'
  rw [HX.out, HY.out]
  go_enter Tryz.func51, Tryz.ntmps51
  go_wp2
  refine wp_loop_rounds 3 ?_
  rw [rounds_succ]
  go_wp2
  go_region_held3 (fun w' => w'.cell? ⟨b, o, none⟩ = some (.int .i64 x) ∧ w'.cell? ⟨b, o + 1, none⟩ = some (.int .i64 y) ∧ w'.cell? ⟨w.heap.size, 1, none⟩ = some (.int .i64 m)) (go_keep)
    (first | (go_at_call 15; refine (around_any _ _ hx (by omega) (by omega) _).mono ?_; rw [HX.out]; rintro e w9 ⟨rfl, rfl⟩))
  go_wp2
  rw [rounds_succ]
  go_wp2
  go_region_held3 (fun w' => w'.cell? ⟨b, o, none⟩ = some (.int .i64 x) ∧ w'.cell? ⟨b, o + 1, none⟩ = some (.int .i64 y) ∧ w'.cell? ⟨w.heap.size, 1, none⟩ = some (.int .i64 m)) (go_keep)
    (first | (go_at_call 15; refine (around_any _ _ hy (by omega) (by omega) _).mono ?_; rw [HY.out]; rintro e w9 ⟨rfl, rfl⟩))
  go_wp2
  rw [rounds_succ]
  go_wp2_with (go_at_call 75; refine (refPack_any _ _ _ [x', y', 0] _ (by omega) ?_).mono ?_; (exact sl3 (by simp [go_sem]) (by simp [go_sem]) (by simp [go_sem])); rintro e w9 ⟨rfl, rfl⟩)
  go_ret
  exact ⟨rfl, by go_grown⟩
set_option maxHeartbeats 2000000 in
theorem good31 (b o cap : Nat) (x m : Int) (hx : Px.I x) (m0 : 0 ≤ m) (m1 : m ≤ 65535) (w : World) (c0 : w.cell? ⟨b, o, none⟩ = some (.int .i64 x)) :
    Calls Tryz.prog 51 #[.slice (some ⟨b, o, none⟩) 1 cap, .agg #[.int .i64 3, .int .i64 m]] w fun e w' => e = .returned (.int .u64 (Px.packV [Px.aroundV x (m + 1), 0, 0]).1) ∧ Below w.heap.size w w' := by
  have hmk : ∀ w, (Instr.makeSlice 25 (.int .i64 3) (.int .i64 3)).run Tryz.prog w = .ok (.slice (some ⟨w.heap.size, 0, none⟩) 3 3) (w.alloc (.cells #[.int .i64 0, .int .i64 0, .int .i64 0] 3)) := fun _ => by kernel_rfl
  have hwr : IntKind.i64.wrap (m + 1) = m + 1 := IntWalk.i64_in _ (by omega)
  have hb : b < w.heap.size := block_lt_of_cell c0
  obtain ⟨x', hx'⟩ : ∃ v, Px.aroundV x (m + 1) = v := ⟨_, rfl⟩
  have HX := Lib.hid hx'; clear hx'
  rw [HX.out]
  go_enter Tryz.func51, Tryz.ntmps51
  go_wp2
  refine wp_loop_rounds 2 ?_
  rw [rounds_succ]
  go_wp2
  go_region_held3 (fun w' => w'.cell? ⟨b, o, none⟩ = some (.int .i64 x) ∧ w'.cell? ⟨w.heap.size, 1, none⟩ = some (.int .i64 m)) (go_keep)
    (first | (go_at_call 15; refine (around_any _ _ hx (by omega) (by omega) _).mono ?_; rw [HX.out]; rintro e w9 ⟨rfl, rfl⟩))
  go_wp2
  rw [rounds_succ]
  go_wp2_with (go_at_call 75; refine (refPack_any _ _ _ [x', 0, 0] _ (by omega) ?_).mono ?_; (exact sl3 (by simp [go_sem]) (by simp [go_sem]) (by simp [go_sem])); rintro e w9 ⟨rfl, rfl⟩)
  go_ret
  exact ⟨rfl, by go_grown⟩
set_option maxHeartbeats 2000000 in
theorem good30 (ao : Option Addr) (cap : Nat) (m : Int)  (m0 : 0 ≤ m) (m1 : m ≤ 65535) (w : World)  :
    Calls Tryz.prog 51 #[.slice ao 0 cap, .agg #[.int .i64 3, .int .i64 m]] w fun e w' => e = .returned (.int .u64 (Px.packV [0, 0, 0]).1) ∧ Below w.heap.size w w' := by
  have hmk : ∀ w, (Instr.makeSlice 25 (.int .i64 3) (.int .i64 3)).run Tryz.prog w = .ok (.slice (some ⟨w.heap.size, 0, none⟩) 3 3) (w.alloc (.cells #[.int .i64 0, .int .i64 0, .int .i64 0] 3)) := fun _ => by kernel_rfl
  have hwr : IntKind.i64.wrap (m + 1) = m + 1 := IntWalk.i64_in _ (by omega)
  go_enter Tryz.func51, Tryz.ntmps51
  go_wp2
  refine wp_loop_rounds 1 ?_
  rw [rounds_succ]
  go_wp2_with (go_at_call 75; refine (refPack_any _ _ _ [0, 0, 0] _ (by omega) ?_).mono ?_; (exact sl3 (by simp [go_sem]) (by simp [go_sem]) (by simp [go_sem])); rintro e w9 ⟨rfl, rfl⟩)
  go_ret
  exact ⟨rfl, by go_grown⟩
set_option maxHeartbeats 2000000 in
theorem good11 (b o cap n : Nat) (x m : Int) (hn : 1 ≤ n) (hn' : n ≤ 9223372036854775807) (hx : Px.I x) (m0 : 0 ≤ m) (m1 : m ≤ 65535) (w : World) (c0 : w.cell? ⟨b, o, none⟩ = some (.int .i64 x)) :
    Calls Tryz.prog 51 #[.slice (some ⟨b, o, none⟩) n cap, .agg #[.int .i64 1, .int .i64 m]] w fun e w' => e = .returned (.int .u64 (Px.packV [Px.aroundV x (m + 1)]).1) ∧ Below w.heap.size w w' := by
  have hmk : ∀ w, (Instr.makeSlice 25 (.int .i64 1) (.int .i64 1)).run Tryz.prog w = .ok (.slice (some ⟨w.heap.size, 0, none⟩) 1 1) (w.alloc (.cells #[.int .i64 0] 3)) := fun _ => by kernel_rfl
  have hwr : IntKind.i64.wrap (m + 1) = m + 1 := IntWalk.i64_in _ (by omega)
  have n0 : (0 : Int) < n := by omega
  have hb : b < w.heap.size := block_lt_of_cell c0
  obtain ⟨x', hx'⟩ : ∃ v, Px.aroundV x (m + 1) = v := ⟨_, rfl⟩
  have HX := Lib.hid hx'; clear hx'
  rw [HX.out]
  go_enter Tryz.func51, Tryz.ntmps51
  go_wp2
  refine wp_loop_rounds 2 ?_
  rw [rounds_succ]
  go_wp2
  go_region_held3 (fun w' => w'.cell? ⟨b, o, none⟩ = some (.int .i64 x) ∧ w'.cell? ⟨w.heap.size, 1, none⟩ = some (.int .i64 m)) (go_keep)
    (first | (go_at_call 15; refine (around_any _ _ hx (by omega) (by omega) _).mono ?_; rw [HX.out]; rintro e w9 ⟨rfl, rfl⟩))
  go_wp2
  rw [rounds_succ]
  go_wp2_with (go_at_call 75; refine (refPack_any _ _ _ [x'] _ (by omega) ?_).mono ?_; (exact sl1 (by simp [go_sem])); rintro e w9 ⟨rfl, rfl⟩)
  go_ret
  exact ⟨rfl, by go_grown⟩
set_option maxHeartbeats 2000000 in
theorem good10 (ao : Option Addr) (cap : Nat) (m : Int)  (m0 : 0 ≤ m) (m1 : m ≤ 65535) (w : World)  :
    Calls Tryz.prog 51 #[.slice ao 0 cap, .agg #[.int .i64 1, .int .i64 m]] w fun e w' => e = .returned (.int .u64 (Px.packV [0]).1) ∧ Below w.heap.size w w' := by
  have hmk : ∀ w, (Instr.makeSlice 25 (.int .i64 1) (.int .i64 1)).run Tryz.prog w = .ok (.slice (some ⟨w.heap.size, 0, none⟩) 1 1) (w.alloc (.cells #[.int .i64 0] 3)) := fun _ => by kernel_rfl
  have hwr : IntKind.i64.wrap (m + 1) = m + 1 := IntWalk.i64_in _ (by omega)
  go_enter Tryz.func51, Tryz.ntmps51
  go_wp2
  refine wp_loop_rounds 1 ?_
  rw [rounds_succ]
  go_wp2_with (go_at_call 75; refine (refPack_any _ _ _ [0] _ (by omega) ?_).mono ?_; (exact sl1 (by simp [go_sem])); rintro e w9 ⟨rfl, rfl⟩)
  go_ret
  exact ⟨rfl, by go_grown⟩
end Pq
end Go.Proofs.YtkjkepnailamnaaGreat
namespace Go.Proofs.YtkjkepnailamnaaGreat
open Go.RowKit
set_option linter.unusedVariables false
namespace Pq
theorem good_sl (a : Option Addr) (len cap : Nat) (l : List Int) (c m : Int) (hl : len ≤ 9223372036854775807) (hI : ∀ z ∈ l, Px.I z) (hc : c = 1 ∨ c = 3) (m0 : 0 ≤ m) (m1 : m ≤ 65535) (w : World) (hs : Sl w a len l) :
    Calls Tryz.prog 51 #[.slice a len cap, .agg #[.int .i64 c, .int .i64 m]] w fun e w' => e = .returned (.int .u64 (Px.goodV l c m)) ∧ Below w.heap.size w w' := by
  obtain ⟨hz, hcell⟩ := hs
  match l, hz with
  | [], hz =>
    obtain rfl : len = 0 := by simpa using hz.symm
    rcases hc with rfl | rfl
    · exact good10 a cap m m0 m1 w
    · exact good30 a cap m m0 m1 w
  | x :: r, hz =>
    rcases hcell with hcell | ⟨b, o, rfl, hcell⟩
    · simp at hz; omega
    have hx := hI x (by simp)
    have c0 : w.cell? ⟨b, o, none⟩ = some (.int .i64 x) := by simpa using hcell 0 (by simp at hz; omega)
    rcases hc with rfl | rfl
    · exact good11 b o cap len x m (by simp at hz; omega) hl hx m0 m1 w c0
    · match r, hz with
      | [], hz =>
        obtain rfl : len = 1 := by simpa using hz.symm
        exact good31 b o cap x m hx m0 m1 w c0
      | y :: r, hz =>
        have hy := hI y (by simp)
        have c1 : w.cell? ⟨b, o + 1, none⟩ = some (.int .i64 y) := by simpa using hcell 1 (by simp at hz; omega)
        match r, hz with
        | [], hz =>
          obtain rfl : len = 2 := by simpa using hz.symm
          exact good32 b o cap x y m hx hy m0 m1 w c0 c1
        | z :: r, hz =>
          have hzz := hI z (by simp)
          have c2 : w.cell? ⟨b, o + 2, none⟩ = some (.int .i64 z) := by simpa using hcell 2 (by simp at hz; omega)
          exact good33 b o cap len x y z m (by simp at hz; omega) hl hx hy hzz m0 m1 w c0 c1 c2
def GoodP (p c m : Int) : Prop := (c = 3 ∧ ∃ x y z, Px.Is3 p x y z ∧ x ≤ m ∧ y ≤ m ∧ z ≤ m) ∨ (c = 1 ∧ ∃ x, Px.Is1 p x ∧ x ≤ m)
theorem goodL_in (m : Int) (m0 : 0 ≤ m) : ∀ (k : Nat) (zs : List Int), ∀ z ∈ Px.goodL zs m k, 0 ≤ z ∧ z ≤ m
  | 0, _, z, h => by cases h
  | k + 1, zs, z, h => by
    unfold Px.goodL at h
    rcases List.mem_cons.1 h with h | h
    · subst h
      cases zs with
      | nil => exact ⟨Int.le_refl _, m0⟩
      | cons x r => have := Px.around_lt x (m + 1) (by omega); simp only []; omega
    · exact goodL_in m m0 k zs.tail z h
theorem goodL_len (m : Int) : ∀ (k : Nat) (zs : List Int), (Px.goodL zs m k).length = k
  | 0, _ => rfl
  | k + 1, zs => by unfold Px.goodL; simp [goodL_len m k zs.tail]
theorem good_is (l : List Int) {c m : Int} (hc : c = 1 ∨ c = 3) (m0 : 0 ≤ m) (m1 : m ≤ 65535) : GoodP (Px.goodV l c m) c m := by
  have hin := goodL_in m m0 c.toNat l
  have hln := goodL_len m c.toNat l
  unfold Px.goodV
  generalize Px.goodL l m c.toNat = q at *
  rcases hc with rfl | rfl
  · match q, hln with
    | [x], _ =>
      have hx := hin x (by simp)
      rw [Px.packV1 (by omega) (by omega)]
      exact .inr ⟨rfl, x, ⟨rfl, by omega, by omega⟩, hx.2⟩
  · match q, hln with
    | [x, y, z], _ =>
      have hx := hin x (by simp)
      have hy := hin y (by simp)
      have hz := hin z (by simp)
      rw [Px.packV3 (by omega) (by omega) (by omega) (by omega) (by omega) (by omega)]
      exact .inl ⟨rfl, x, y, z, ⟨rfl, by omega, by omega, by omega, by omega, by omega, by omega⟩, hx.2, hy.2, hz.2⟩
theorem goodU {p c m : Int} (h : GoodP p c m) : Px.U p := by
  rcases h with ⟨_, x, y, z, h, _⟩ | ⟨_, x, h, _⟩
  · exact isU3 h
  · exact isU1 h
end Pq
end Go.Proofs.YtkjkepnailamnaaGreat
namespace Go.Proofs.YtkjkepnailamnaaGreat
open Go.RowKit Go.Shelf
set_option linter.unusedVariables false
namespace Bt
end Bt
end Go.Proofs.YtkjkepnailamnaaGreat
namespace Go.Proofs.YtkjkepnailamnaaGreat
open Go.RowKit Go.Shelf
set_option linter.unusedVariables false
namespace Bt
end Bt
end Go.Proofs.YtkjkepnailamnaaGreat
namespace Go.Proofs.YtkjkepnailamnaaGreat
open Go.RowKit Go.Shelf
set_option linter.unusedVariables false
namespace Bt
end Bt
end Go.Proofs.YtkjkepnailamnaaGreat
namespace Go.Proofs.YtkjkepnailamnaaGreat
open Go.RowKit Go.Lib Go.Sort
end Go.Proofs.YtkjkepnailamnaaGreat
namespace Go.Proofs.YtkjkepnailamnaaGreat
open Go.RowKit Go.Shelf
attribute [local go_sem] Oper.semAt_some
set_option linter.unusedVariables false
theorem ret_i {k : IntKind} {a b : Int} (h : a = b) : Ending.returned (.int k a) = .returned (.int k b) := by rw [h]
theorem size_any (n : Int) (hn : Nu.I n) (w : World) :
    Calls Tryz.prog 152 #[.int .i64 n] w fun e w' => e = .returned (.int .u64 n.natAbs) ∧ w = w' := by
  obtain ⟨h1, h2⟩ := hn
  by_cases h : n < 0
  · have X : Hid (IntKind.u64.wrap (-(IntKind.u64.wrap n)) = (n.natAbs : Int)) := by show _ = _; simp [IntKind.wrap, IntKind.bits, IntKind.signed]; omega
    go_enter Tryz.func152, Tryz.ntmps152
    go_wp2
    go_ret
    exact ⟨ret_i X.out, rfl⟩
  · have X : Hid (n = (n.natAbs : Int)) := by show _ = _; omega
    have h0 : 0 ≤ n := by omega
    go_enter Tryz.func152, Tryz.ntmps152
    go_wp2
    go_ret
    exact ⟨ret_i X.out, rfl⟩
theorem digits_any (n b : Int) (w : World) :
    Calls Tryz.prog 151 #[.int .u64 n, .int .u64 b] w fun e w' =>
      e = .returned (.func (.func 183) #[] #[.pointer (some ⟨w.heap.size, 0, none⟩), .pointer (some ⟨w.heap.size + 1, 0, none⟩)]) ∧
      w' = (w.alloc (.cells #[.int .u64 n] 54)).alloc (.cells #[.int .u64 b] 54) := by
  go_enter Tryz.func151, Tryz.ntmps151
  go_wp2
  go_ret
  exact ⟨rfl, rfl⟩
def Made (n b : Int) (w : World) (e : Ending) (w' : World) : Prop :=
  ∃ nb bb, e = .returned (.func (.func 183) #[] #[.pointer (some ⟨nb, 0, none⟩), .pointer (some ⟨bb, 0, none⟩)]) ∧ nb ≠ bb ∧ w.heap.size ≤ nb ∧ w.heap.size ≤ bb ∧
    w'.cell? ⟨nb, 0, none⟩ = some (.int .u64 n) ∧ w'.cell? ⟨bb, 0, none⟩ = some (.int .u64 b) ∧ w'.frozen? ⟨nb, 0, none⟩ = false ∧ Below w.heap.size w w'
theorem digits_made (n b : Int) (w : World) : Calls Tryz.prog 151 #[.int .u64 n, .int .u64 b] w (Made n b w) := by
  refine (digits_any n b w).mono ?_
  rintro e w' ⟨rfl, rfl⟩
  exact ⟨_, _, rfl, by omega, by omega, by omega, by simp [go_sem], by simp [go_sem], by simp [go_sem], ((Below.refl _ _).alloc (Nat.le_refl _) _).alloc (by simp) _⟩
def cellNat (nb : Nat) (w : World) : Nat := match w.cell? ⟨nb, 0, none⟩ with | some (.int _ x) => x.toNat | _ => 0
theorem cellNat_of {nb : Nat} {w : World} {k : IntKind} {x : Int} (h : w.cell? ⟨nb, 0, none⟩ = some (.int k x)) : cellNat nb w = x.toNat := by unfold cellNat; rw [h]
set_option maxRecDepth 100000 in
set_option maxHeartbeats 2000000 in
theorem digits_gives (n b : Int) (h0 : 0 ≤ n) (h1 : n ≤ 18446744073709551615) (hb : 2 ≤ b) (hb1 : b ≤ 18446744073709551615) (nb bb : Nat) (hne : nb ≠ bb) (W0 : World) (m : Nat) (hm : 1 ≤ m)
    (cn : W0.cell? ⟨nb, 0, none⟩ = some (.int .u64 n)) (cb : W0.cell? ⟨bb, 0, none⟩ = some (.int .u64 b)) (fn : W0.frozen? ⟨nb, 0, none⟩ = false) :
    Gives Fence.wide m Tryz.prog 183 #[.pointer (some ⟨nb, 0, none⟩), .pointer (some ⟨bb, 0, none⟩)] (fun x : Int => #[.int .u64 x]) (fun k => k = nb ∨ k = bb) (Nu.dig b n) W0 := by
  intro l J Jx W hW hJ hJx hY h00
  have hln : nb < W0.heap.size := block_lt_of_cell cn
  have hlb : bb < W0.heap.size := block_lt_of_cell cb
  have cn1 := hW.cell (.inl rfl) cn
  have cb1 := hW.cell (.inr rfl) cb
  have fn1 : W.frozen? ⟨nb, 0, none⟩ = false := (hW.frozen (.inl rfl) hln).trans fn
  clear cn cb fn hln hlb hW
  have hbz : (b == 0) = false := by simp; omega
  refine callsIn_of_wp Tryz.func183 rfl trivial ?_ rfl
  simp only [Tryz.ntmps183, List.size_toArray, List.length_cons, List.length_nil, Nat.reduceAdd, Nat.reduceSub, Array.replicate_succ, Array.replicate_zero, List.push_toArray, List.append_toArray, List.nil_append, List.cons_append]
  gi_wp2
  gi_loopw [16] (fun _ wr => ∃ (pre : List Int) (q : Int), 0 ≤ q ∧ q ≤ 18446744073709551615 ∧ Nu.dig b n = pre ++ Nu.dig b q ∧ J pre wr ∧ wr.cell? ⟨nb, 0, none⟩ = some (.int .u64 q) ∧ wr.cell? ⟨bb, 0, none⟩ = some (.int .u64 b) ∧ wr.frozen? ⟨nb, 0, none⟩ = false) (fun _ wr => cellNat nb wr)
  case atStart => exact ⟨[], n, h0, h1, rfl, h00, cn1, cb1, fn1⟩
  case round =>
    obtain ⟨pre, q, q0, q1, hx, hj, c1, c2, f1⟩ := hrel
    clear cn1 cb1 fn1 h00
    have M := Lib.hid (cellNat_of c1)
    have hmod : q % b < b := Int.emod_lt_of_pos _ (by omega)
    have hmod0 : 0 ≤ q % b := Int.emod_nonneg _ (by omega)
    have hn1 : nb < wr.heap.size := block_lt_of_cell c1
    by_cases hle : b ≤ q
    · have hx2 : Nu.dig b n = pre ++ q % b :: Nu.dig b (q / b) := by rw [hx, Nu.dig_more hb hle]
      obtain ⟨fn, tmps, assign, body, hy, hR⟩ := hY pre (q % b) (Nu.dig b (q / b)) wr hx2 hj
      have HX := Lib.hid hx2
      have hq0 : 0 ≤ q / b := Int.ediv_nonneg (by omega) (by omega)
      have hq1 : q / b ≤ q := Int.ediv_le_self _ (by omega)
      have hq2 : q / b < q := Int.ediv_lt_self_of_pos_of_ne_one (by omega) (by omega)
      clear hx hx2 hY
      gi_wp2
      refine hR.mono ?_
      rintro e W3 ⟨hh, (⟨rfl, hJ3⟩ | ⟨rfl, hJx3⟩)⟩
      · have c13 := hh.cell (.inl rfl) c1
        have c23 := hh.cell (.inr rfl) c2
        have f13 : W3.frozen? ⟨nb, 0, none⟩ = false := (hh.frozen (.inl rfl) hn1).trans f1
        clear hR hy c1 c2 f1
        gi_wp2
        go_roundw
        case rel => exact ⟨pre ++ [q % b], q / b, hq0, by omega, by rw [HX.out]; simp, hJ _ _ _ hJ3 (.setCell _ (.inl rfl) _), World.cell?_setCell_same' _ _ _ (by rw [c13]; rfl), by rw [World.cell?_setCell_other _ _ _ _ (by first | (simp; done) | (simp; omega))]; exact c23, by rw [World.frozen?_setCell]; exact f13⟩
        case measure => rw [M.out, cellNat_of (World.cell?_setCell_same' _ _ _ (by rw [c13]; rfl))]; omega
      · gi_wp2
        go_end0
        exact ⟨⟨_, rfl⟩, .inr ⟨pre ++ [q % b], ⟨Nu.dig b (q / b), by rw [HX.out]; simp⟩, hJx3⟩⟩
    · have hx2 : Nu.dig b n = pre ++ q % b :: [] := by rw [hx, Nu.dig_last (by omega)]
      obtain ⟨fn, tmps, assign, body, hy, hR⟩ := hY pre (q % b) [] wr hx2 hj
      have HX := Lib.hid hx2
      clear hx hx2 hY
      gi_wp2
      refine hR.mono ?_
      rintro e W3 ⟨hh, (⟨rfl, hJ3⟩ | ⟨rfl, hJx3⟩)⟩
      · have c13 := hh.cell (.inl rfl) c1
        have c23 := hh.cell (.inr rfl) c2
        clear hR hy c1 c2 f1
        gi_wp2
        go_end0
        exact ⟨⟨_, rfl⟩, .inl (by rw [HX.out]; exact hJ3)⟩
      · gi_wp2
        go_end0
        exact ⟨⟨_, rfl⟩, .inr ⟨pre ++ [q % b], ⟨[], by rw [HX.out]; simp⟩, hJx3⟩⟩
end Go.Proofs.YtkjkepnailamnaaGreat
namespace Go.Proofs.YtkjkepnailamnaaGreat
open Go.RowKit Go.Shelf
attribute [local go_sem] Oper.semAt_some
set_option linter.unusedVariables false
def Nu.places (n : Int) : Int := (if n < 0 then 1 else 0) + (Nu.dig 10 n.natAbs).length
end Go.Proofs.YtkjkepnailamnaaGreat
namespace Go.Proofs.YtkjkepnailamnaaGreat
open Go.RowKit
set_option linter.unusedVariables false
namespace Pl
theorem take_getD (l : List Int) (k : Nat) (h : k < l.length) : l.take (k + 1) = l.take k ++ [l.getD k 0] := by
  rw [List.take_succ_eq_append_getElem h, List.getD_eq_getElem?_getD, List.getElem?_eq_getElem h]; rfl
theorem decV_len (n : Int) : ((Nu.decV n).length : Int) = Nu.places n := by
  unfold Nu.decV Nu.backV Nu.places
  rw [List.length_reverse, List.length_append, List.length_map]
  split <;> simp <;> omega
theorem smp_in {p : Int} (hU : Pq.Px.U p) : (Pq.Px.smp p).length ≤ 3 ∧ ∀ s ∈ Pq.Px.smp p, 0 ≤ s ∧ s ≤ 65535 := by
  rcases Pq.Px.tri hU with ⟨a, b, c, h⟩ | ⟨a, h⟩ | h
  · rw [Pq.Px.smp3 h]
    obtain ⟨_, h⟩ := h
    refine ⟨by simp, fun s hs => ?_⟩
    simp only [List.mem_cons, List.not_mem_nil, or_false] at hs
    omega
  · rw [Pq.Px.smp1 h]
    obtain ⟨_, h⟩ := h
    refine ⟨by simp, fun s hs => ?_⟩
    simp only [List.mem_cons, List.not_mem_nil, or_false] at hs
    omega
  · rw [Pq.Px.smp0 h]
    exact ⟨by simp, fun s hs => by cases hs⟩
theorem smp_I {p : Int} (hU : Pq.Px.U p) : ∀ s ∈ Pq.Px.smp p, Nu.I s := fun s hs => by have := (smp_in hU).2 s hs; unfold Nu.I; omega
end Pl
theorem getD_mem {l : List Int} {k : Nat} (h : k < l.length) : l.getD k 0 ∈ l := by
  rw [List.getD_eq_getElem?_getD, List.getElem?_eq_getElem h]; exact List.getElem_mem h
end Go.Proofs.YtkjkepnailamnaaGreat
namespace Go.Proofs.YtkjkepnailamnaaGreat
open Go.RowKit
end Go.Proofs.YtkjkepnailamnaaGreat

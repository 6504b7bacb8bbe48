/- When two lists of numbers are the same, by the document's own answer, over any memory. Condition: a length fits an int. -/
import Derived.Test.YtmnhiagppicegaaGreatProg
import Derived.Test.YtmnhiagppicegaaGreatZgAA
import Derived.BigQuiet
import Derived.Deep.QuietTactic
import Derived.LoopN
import Derived.Laws.BitsAllLaws
import Derived.Laws.OwnMore
import Derived.Deep.AppendLies
import Derived.OwnWalkIn
import Derived.TacticsInMore
import Derived.LoopNIn
import Derived.LoopIn
import Derived.Handy
import Derived.Lib.Hide
import Derived.WalkKit
import Derived.WalkSpells
import Derived.WalkLawsBesides
import Derived.Deep.LoopGhost
import Derived.RegionTactic
import Derived.Lib.Walk
import Derived.Sort.WalkB12
import Derived.Lib.SlicesMore
import Derived.Lib.OwnBridge
import Derived.Laws.BytesArg
namespace Go.Proofs.YtmnhiagppicegaaGreat
open Go.RowKit
set_option linter.unusedVariables false

namespace Sm
def Alike (x y : List Int) (k : Nat) : Prop := ∀ i, i < k → x.getD i 0 = y.getD i 0
theorem alike_all {x y : List Int} {n : Nat} (hx : x.length = n) (hy : y.length = n) (h : Alike x y n) : x = y := by
  refine List.ext_getElem (by rw [hx, hy]) fun i h1 h2 => ?_
  have := h i (by omega)
  rw [List.getD_eq_getElem?_getD, List.getD_eq_getElem?_getD, List.getElem?_eq_getElem h1, List.getElem?_eq_getElem h2] at this
  simpa using this
theorem alike_succ {x y : List Int} {k : Nat} (h : Alike x y k) (e : x.getD k 0 = y.getD k 0) : Alike x y (k + 1) := fun i hi => by
  rcases Nat.lt_or_ge i k with h1 | h1
  · exact h i h1
  · obtain rfl : i = k := by omega
    exact e

end Sm
end Go.Proofs.YtmnhiagppicegaaGreat

/- The byte of eight bits, over any memory. Condition: bits are 0 or 1. -/
namespace Go.Proofs.YtmnhiagppicegaaGreat
open Go.RowKit
set_option linter.unusedVariables false
namespace Bt
theorem or1 (n x : Int) (h : 0 ≤ n) (h2 : n ≤ 127) (a : 0 ≤ x) (b : x ≤ 1) : Go.bits BinOp.or IntKind.u8 (n * 2) x = n * 2 + x := by
  obtain ⟨n, rfl⟩ : ∃ m : Nat, n = m := ⟨n.toNat, by omega⟩
  obtain ⟨x, rfl⟩ : ∃ m : Nat, x = m := ⟨x.toNat, by omega⟩
  have := u8_or_nat (n * 2) x (by omega) (by omega)
  rw [Int.natCast_mul] at this
  rw [show ((2 : Nat) : Int) = 2 from rfl] at this
  rw [this]
  have e : n * 2 ||| x = n * 2 + x := by
    rw [show n * 2 = 2 ^ 1 * n by omega]
    exact (Nat.two_pow_add_eq_or_of_lt (i := 1) (by omega) n).symm
  rw [e]; omega
set_option maxRecDepth 100000 in
theorem join_any (x7 x6 x5 x4 x3 x2 x1 x0 : Int) (a7 : 0 ≤ x7) (b7 : x7 ≤ 1) (a6 : 0 ≤ x6) (b6 : x6 ≤ 1) (a5 : 0 ≤ x5) (b5 : x5 ≤ 1) (a4 : 0 ≤ x4) (b4 : x4 ≤ 1) (a3 : 0 ≤ x3) (b3 : x3 ≤ 1) (a2 : 0 ≤ x2) (b2 : x2 ≤ 1) (a1 : 0 ≤ x1) (b1 : x1 ≤ 1) (a0 : 0 ≤ x0) (b0 : x0 ≤ 1) (w : World) :
    Calls Tryz.prog 191 #[.agg #[.int .i64 x7, .int .i64 x6, .int .i64 x5, .int .i64 x4, .int .i64 x3, .int .i64 x2, .int .i64 x1, .int .i64 x0]] w fun e w' => e = .returned (.int .u8 (num [x7, x6, x5, x4, x3, x2, x1, x0] 0)) ∧ Below w.heap.size w w' := by
  have N : ∀ n m x : Int, 0 ≤ n → n ≤ m → 0 ≤ x → x ≤ 1 → m ≤ 127 → ∃ r, Go.bits BinOp.or IntKind.u8 (n * 2) x = r ∧ 0 ≤ r ∧ r ≤ m * 2 + 1 ∧ Hid (n * 2 + x = r) := fun n m x h k a b c => ⟨n * 2 + x, or1 n x h (by omega) a b, by omega, by omega, Lib.hid rfl⟩
  have i0 : ∀ w, (Instr.index 265 (.agg #[.int .i64 x7, .int .i64 x6, .int .i64 x5, .int .i64 x4, .int .i64 x3, .int .i64 x2, .int .i64 x1, .int .i64 x0]) (.int .i64 0)).run Tryz.prog w = .ok (.int .i64 x7) w := fun _ => by kernel_rfl
  have i1 : ∀ w, (Instr.index 265 (.agg #[.int .i64 x7, .int .i64 x6, .int .i64 x5, .int .i64 x4, .int .i64 x3, .int .i64 x2, .int .i64 x1, .int .i64 x0]) (.int .i64 1)).run Tryz.prog w = .ok (.int .i64 x6) w := fun _ => by kernel_rfl
  have i2 : ∀ w, (Instr.index 265 (.agg #[.int .i64 x7, .int .i64 x6, .int .i64 x5, .int .i64 x4, .int .i64 x3, .int .i64 x2, .int .i64 x1, .int .i64 x0]) (.int .i64 2)).run Tryz.prog w = .ok (.int .i64 x5) w := fun _ => by kernel_rfl
  have i3 : ∀ w, (Instr.index 265 (.agg #[.int .i64 x7, .int .i64 x6, .int .i64 x5, .int .i64 x4, .int .i64 x3, .int .i64 x2, .int .i64 x1, .int .i64 x0]) (.int .i64 3)).run Tryz.prog w = .ok (.int .i64 x4) w := fun _ => by kernel_rfl
  have i4 : ∀ w, (Instr.index 265 (.agg #[.int .i64 x7, .int .i64 x6, .int .i64 x5, .int .i64 x4, .int .i64 x3, .int .i64 x2, .int .i64 x1, .int .i64 x0]) (.int .i64 4)).run Tryz.prog w = .ok (.int .i64 x3) w := fun _ => by kernel_rfl
  have i5 : ∀ w, (Instr.index 265 (.agg #[.int .i64 x7, .int .i64 x6, .int .i64 x5, .int .i64 x4, .int .i64 x3, .int .i64 x2, .int .i64 x1, .int .i64 x0]) (.int .i64 5)).run Tryz.prog w = .ok (.int .i64 x2) w := fun _ => by kernel_rfl
  have i6 : ∀ w, (Instr.index 265 (.agg #[.int .i64 x7, .int .i64 x6, .int .i64 x5, .int .i64 x4, .int .i64 x3, .int .i64 x2, .int .i64 x1, .int .i64 x0]) (.int .i64 6)).run Tryz.prog w = .ok (.int .i64 x1) w := fun _ => by kernel_rfl
  have i7 : ∀ w, (Instr.index 265 (.agg #[.int .i64 x7, .int .i64 x6, .int .i64 x5, .int .i64 x4, .int .i64 x3, .int .i64 x2, .int .i64 x1, .int .i64 x0]) (.int .i64 7)).run Tryz.prog w = .ok (.int .i64 x0) w := fun _ => by kernel_rfl
  obtain ⟨n1, e1, l1, u1, H1⟩ := N 0 0 x7 (by omega) (by omega) a7 b7 (by omega)
  rw [Int.zero_mul] at e1
  obtain ⟨n2, e2, l2, u2, H2⟩ := N n1 1 x6 (by omega) (by omega) a6 b6 (by omega)
  obtain ⟨n3, e3, l3, u3, H3⟩ := N n2 3 x5 (by omega) (by omega) a5 b5 (by omega)
  obtain ⟨n4, e4, l4, u4, H4⟩ := N n3 7 x4 (by omega) (by omega) a4 b4 (by omega)
  obtain ⟨n5, e5, l5, u5, H5⟩ := N n4 15 x3 (by omega) (by omega) a3 b3 (by omega)
  obtain ⟨n6, e6, l6, u6, H6⟩ := N n5 31 x2 (by omega) (by omega) a2 b2 (by omega)
  obtain ⟨n7, e7, l7, u7, H7⟩ := N n6 63 x1 (by omega) (by omega) a1 b1 (by omega)
  obtain ⟨n8, e8, l8, u8, H8⟩ := N n7 127 x0 (by omega) (by omega) a0 b0 (by omega)
  have X := Lib.hid (show n8 = num [x7, x6, x5, x4, x3, x2, x1, x0] 0 by simp only [num]; rw [H1.out, H2.out, H3.out, H4.out, H5.out, H6.out, H7.out, H8.out])
  clear N
  go_enter Tryz.func191, Tryz.ntmps191
  go_wp2
  go_rounds 9
  go_ret
  exact ⟨ret_i X.out, by go_grown⟩
end Bt
end Go.Proofs.YtmnhiagppicegaaGreat

/- 'append(v, y...)' where v is the call's own and y any slice of integers that is known, nil and empty ones too: as a law for the walk. No condition beyond what is named. -/
namespace Go.Proofs.YtmnhiagppicegaaGreat
open Go.RowKit
set_option linter.unusedVariables false

theorem app_none {P : Program} {w : World} (base : Nat) (t ty e : TypeId) (i : TypeInfo) (size : Nat) (ht : P.underlying t = some (.slice e)) (hi : P.info? e = some i)
    (v : Value) (n c : Nat) (xs : List Value) (hown : w.ownsRow base e size v n xs) :
    (Builtin.append_ #[t, t] ty #[v, .slice none 0 c]).run P w = .ok v w := by
  rcases hown.2 with ⟨rfl, rfl⟩ | ⟨g, cap, cur, rfl, _, _, hnc, _⟩
  · simp [Builtin.append_, run_underlying ht, sizeOf, typeInfo, hi, Builtin.lenOf, Builtin.firstCells]
  · simp [Builtin.append_, run_underlying ht, sizeOf, typeInfo, hi, Builtin.lenOf, Builtin.firstCells, hnc, storeCells]
theorem ints_one (q : IntKind) (l : List Int) : ∀ u ∈ l.map (Value.int q), u.oneCell' = true := by
  intro u hu; obtain ⟨x, _, rfl⟩ := List.mem_map.1 hu; rfl
theorem run_app {P : Program} {w : World} (base : Nat) (t ty e : TypeId) (i : TypeInfo) (q : IntKind) (bytes : Nat) (ht : P.underlying t = some (.slice e)) (hi : P.info? e = some i) (hz : i.zero = some (.int q 0))
    (hsize : i.size = 1) (hby : i.bytes = bytes) (v : Value) (n : Nat) (xs : List Value) (hown : w.ownsRow base e 1 v n xs)
    (a : Option Addr) (m c : Nat) (l : List Int) (hy : SlK q w a m l) (h63 : n + m ≤ maxLen) (hbytes : (n + m) * bytes ≤ 140737488355328) (hbase : base ≤ w.heap.size) :
    ∃ v' w', (Builtin.append_ #[t, t] ty #[v, .slice a m c]).run P w = .ok v' w' ∧ w'.ownsRow base e 1 v' (n + m) (xs ++ l.map (Value.int q)) ∧ w.grownBy w' v.ownBlock ∧ (v'.ownBlock = v.ownBlock ∨ v'.ownBlock = some w.heap.size) := by
  obtain ⟨hl, hc⟩ := hy
  cases a with
  | none =>
    have hm : m = 0 := by
      rcases hc with h | ⟨_, _, h, _⟩
      · exact h
      · cases h
    subst hm
    have hl0 : l = [] := List.length_eq_zero_iff.1 hl
    subst hl0
    exact ⟨v, w, app_none base t ty e i 1 ht hi v n c xs hown, by simpa using hown, ⟨rfl, rfl, rfl, Nat.le_refl _, fun _ _ _ => rfl⟩, .inl rfl⟩
  | some ad =>
    obtain ⟨v', w', h1, h2, h3, _, h5⟩ := run_append_own_at (P := P) w base t ty e i (.int q 0) 1 bytes ht hi hz hsize hby rfl (by decide) v n xs hown ad m c (l.map (Value.int q)) (by rw [List.length_map, hl, Nat.mul_one]) (fun j u hu => by
      have hj : j < m := by
        rcases Nat.lt_or_ge j m with h | h
        · exact h
        · rw [List.getElem?_eq_none (by rw [List.length_map]; omega)] at hu; cases hu
      rcases hc with h | ⟨blk, off, ha, hcell⟩
      · omega
      · cases ha
        rw [addrK_add, hcell j hj]
        rw [List.getElem?_map, List.getElem?_eq_getElem (by omega)] at hu
        rw [List.getD_eq_getElem?_getD, List.getElem?_eq_getElem (by omega)]
        exact hu) (ints_one q l) h63 hbytes hbase
    exact ⟨v', w', h1, h2, h3, h5⟩
theorem wpList_app {P : Program} {w : World} {ops : Array Oper} {rest : List Oper} {o : Oper} {a : Act} {Q : Exit → Act → World → Prop} (hgd : o.guard = none) (s x : Operand) (t : TypeId)
    (ho : o.op = .call { callee := .builtin .append, args := #[s, x], argTypes := #[t, t] })
    (base : Nat) (e : TypeId) (i : TypeInfo) (q : IntKind) (bytes : Nat) (ht : P.underlying t = some (.slice e)) (hi : P.info? e = some i) (hz : i.zero = some (.int q 0))
    (hsize : i.size = 1) (hby : i.bytes = bytes) (v : Value) (n : Nat) (xs : List Value) (hs : a.eval s = v) (hown : w.ownsRow base e 1 v n xs)
    (ad : Option Addr) (m c : Nat) (l : List Int) (hx : a.eval x = .slice ad m c) (hy : SlK q w ad m l) (h63 : n + m ≤ maxLen) (hbytes : (n + m) * bytes ≤ 140737488355328) (hbase : base ≤ w.heap.size)
    (h : ∀ v' w', w'.ownsRow base e 1 v' (n + m) (xs ++ l.map (Value.int q)) → w.grownBy w' v.ownBlock → (v'.ownBlock = v.ownBlock ∨ v'.ownBlock = some w.heap.size) → wpList P ops Q rest (a.put o.dst v') w') : wpList P ops Q (o :: rest) a w := by
  refine wpList_plain hgd fun K hK => ?_
  obtain ⟨v', w', hr, h2, h3, h4⟩ := run_app (P := P) (w := w) base t o.type e i q bytes ht hi hz hsize hby v n xs hown ad m c l hy h63 hbytes hbase
  unfold Oper.wp execOp
  simp only [ho, resolve, invoke, builtin, Sem.run_bind, Sem.run_pure, Result.andThen_ok, List.map_toArray, List.map_cons, List.map_nil, hs, hx, hr]
  exact hK _ _ (h v' w' h2 h3 h4)
end Go.Proofs.YtmnhiagppicegaaGreat

/- When two rows of pixels are the same, by the document, over any memory. Condition: a length fits an int. -/
namespace Go.Proofs.YtmnhiagppicegaaGreat
open Go.RowKit
set_option linter.unusedVariables false
namespace Su
theorem ret_b {a b : Bool} (h : a = b) : Ending.returned (.bool a) = .returned (.bool b) := by rw [h]
theorem below_drewN {B : Nat} {a w : World} (h : Below B a w) (n : Nat) : Below B a (w.drewN n) := ⟨h.os, h.tape, h.output, h.size, h.block⟩
/-- two lists are the same up to k -/
def Alike (x y : List Int) (k : Nat) : Prop := ∀ i, i < k → x.getD i 0 = y.getD i 0
theorem alike_all {x y : List Int} {n : Nat} (hx : x.length = n) (hy : y.length = n) (h : Alike x y n) : x = y := by
  refine List.ext_getElem (by rw [hx, hy]) fun i h1 h2 => ?_
  have := h i (by omega)
  rw [List.getD_eq_getElem?_getD, List.getD_eq_getElem?_getD, List.getElem?_eq_getElem h1, List.getElem?_eq_getElem h2] at this
  simpa using this
theorem alike_succ {x y : List Int} {k : Nat} (h : Alike x y k) (e : x.getD k 0 = y.getD k 0) : Alike x y (k + 1) := fun i hi => by
  rcases Nat.lt_or_ge i k with h1 | h1
  · exact h i h1
  · obtain rfl : i = k := by omega
    exact e

set_option maxHeartbeats 1000000 in
theorem sameRow_any (a b : Option Addr) (n m ca cb : Nat) (x y : List Int) (w : World) (hn : n ≤ 9223372036854775807) (ha : SlK .u64 w a n x) (hb : SlK .u64 w b m y) :
    Calls Tryz.prog 77 #[.slice a n ca, .slice b m cb] w fun e w' => e = .returned (.bool (decide (x = y))) ∧ Below w.heap.size w w' := by
  by_cases h : n = m
  · subst h
    obtain ⟨lx, ha⟩ := ha
    obtain ⟨ly, hb⟩ := hb
    have LX := Lib.hid lx; clear lx
    have LY := Lib.hid ly; clear ly
    by_cases h0 : n = 0
    · subst h0
      have X := Lib.hid (show decide (x = y) = true by rw [decide_eq_true_iff, List.eq_nil_of_length_eq_zero LX.out, List.eq_nil_of_length_eq_zero LY.out])
      clear ha hb
      go_enter Tryz.func77, Tryz.ntmps77
      go_wp2
      go_rounds 1
      go_ret
      exact ⟨ret_b X.out.symm, Below.refl _ _⟩
    · rcases ha with ha | ⟨ba, oa, rfl, ha⟩
      · omega
      rcases hb with hb | ⟨bb, ob, rfl, hb⟩
      · omega
      have HA := Lib.hid ha; clear ha
      have HB := Lib.hid hb; clear hb
      go_enter Tryz.func77, Tryz.ntmps77
      go_wp2
      go_loopw [5] (fun i wr => ∃ k q : Nat, k ≤ n ∧ i = .int .i64 k ∧ Alike x y k ∧ wr = w.drewN q) (fun i _ => n - (intOf i).toNat)
      case atStart => exact ⟨0, 0, Nat.zero_le _, rfl, (fun i hi => by omega), rfl⟩
      case round =>
        obtain ⟨k, q, hk, rfl, hal, rfl⟩ := hrel
        by_cases hlt : k < n
        · have hx := HA.out k hlt
          have hy := HB.out k hlt
          obtain ⟨u, hu⟩ : ∃ u, x.getD k 0 = u := ⟨_, rfl⟩
          obtain ⟨v, hv⟩ : ∃ v, y.getD k 0 = v := ⟨_, rfl⟩
          rw [hu] at hx; rw [hv] at hy
          have HU := Lib.hid hu; clear hu
          have HV := Lib.hid hv; clear hv
          have i0 : (0 : Int) ≤ (k : Int) := Int.natCast_nonneg _
          have i1 : (k : Int) < (n : Int) := by omega
          by_cases huv : u = v
          · subst huv
            go_wp2_with (go_quiet (fail))
            go_roundw
            case rel => exact ⟨k + 1, _, by omega, by go_num, alike_succ hal (by rw [HU.out, HV.out]), rfl⟩
            case measure => simp [intOf]; omega
          · have kk : (u != v) = true := by rw [bne_iff_ne]; exact huv
            have X := Lib.hid (show decide (x = y) = false by rw [decide_eq_false_iff_not]; intro e; apply huv; rw [← HU.out, ← HV.out, e])
            go_wp2_with (go_quiet (fail))
            go_ret
            exact ⟨ret_b X.out.symm, below_drewN (below_drewN (Below.refl _ _) _) _⟩
        · obtain rfl : k = n := by omega
          have X := Lib.hid (show decide (x = y) = true by rw [decide_eq_true_iff]; exact alike_all LX.out LY.out hal)
          go_wp2
          go_ret
          exact ⟨ret_b X.out.symm, below_drewN (Below.refl _ _) _⟩
  · have X := Lib.hid (show decide (x = y) = false by rw [decide_eq_false_iff_not]; intro e; apply h; rw [← ha.1, ← hb.1, e])
    have k : ((n : Int) != m) = true := by simp; omega
    go_enter Tryz.func77, Tryz.ntmps77
    go_wp2
    go_ret
    exact ⟨ret_b X.out.symm, Below.refl _ _⟩

end Su
end Go.Proofs.YtmnhiagppicegaaGreat

/- How far a number is from 0, and what its digits' iterator hands out, over any memory. Condition: numbers fit their kinds. -/
namespace Go.Proofs.YtmnhiagppicegaaGreat
open Go.RowKit Go.Shelf
attribute [local go_sem] Oper.semAt_some
set_option linter.unusedVariables false

theorem ret_i {k : IntKind} {a b : Int} (h : a = b) : Ending.returned (.int k a) = .returned (.int k b) := by rw [h]
theorem size_any (n : Int) (hn : Nu.I n) (w : World) :
    Calls Tryz.prog 134 #[.int .i64 n] w fun e w' => e = .returned (.int .u64 n.natAbs) ∧ w = w' := by
  obtain ⟨h1, h2⟩ := hn
  by_cases h : n < 0
  · have X : Hid (IntKind.u64.wrap (-(IntKind.u64.wrap n)) = (n.natAbs : Int)) := by show _ = _; simp [IntKind.wrap, IntKind.bits, IntKind.signed]; omega
    go_enter Tryz.func134, Tryz.ntmps134
    go_wp2
    go_ret
    exact ⟨ret_i X.out, rfl⟩
  · have X : Hid (n = (n.natAbs : Int)) := by show _ = _; omega
    have h0 : 0 ≤ n := by omega
    go_enter Tryz.func134, Tryz.ntmps134
    go_wp2
    go_ret
    exact ⟨ret_i X.out, rfl⟩

theorem digits_any (n b : Int) (w : World) :
    Calls Tryz.prog 133 #[.int .u64 n, .int .u64 b] w fun e w' =>
      e = .returned (.func (.func 168) #[] #[.pointer (some ⟨w.heap.size, 0, none⟩), .pointer (some ⟨w.heap.size + 1, 0, none⟩)]) ∧
      w' = (w.alloc (.cells #[.int .u64 n] 25)).alloc (.cells #[.int .u64 b] 25) := by
  go_enter Tryz.func133, Tryz.ntmps133
  go_wp2
  go_ret
  exact ⟨rfl, rfl⟩

/-- The digits' iterator is made: two cells of its own. -/
def Made (n b : Int) (w : World) (e : Ending) (w' : World) : Prop :=
  ∃ nb bb, e = .returned (.func (.func 168) #[] #[.pointer (some ⟨nb, 0, none⟩), .pointer (some ⟨bb, 0, none⟩)]) ∧ nb ≠ bb ∧ w.heap.size ≤ nb ∧ w.heap.size ≤ bb ∧
    w'.cell? ⟨nb, 0, none⟩ = some (.int .u64 n) ∧ w'.cell? ⟨bb, 0, none⟩ = some (.int .u64 b) ∧ w'.frozen? ⟨nb, 0, none⟩ = false ∧ Below w.heap.size w w'
theorem digits_made (n b : Int) (w : World) : Calls Tryz.prog 133 #[.int .u64 n, .int .u64 b] w (Made n b w) := by
  refine (digits_any n b w).mono ?_
  rintro e w' ⟨rfl, rfl⟩
  exact ⟨_, _, rfl, by omega, by omega, by omega, by simp [go_sem], by simp [go_sem], by simp [go_sem], ((Below.refl _ _).alloc (Nat.le_refl _) _).alloc (by simp) _⟩

/-- the number that a cell holds -/
def cellNat (nb : Nat) (w : World) : Nat := match w.cell? ⟨nb, 0, none⟩ with | some (.int _ x) => x.toNat | _ => 0
theorem cellNat_of {nb : Nat} {w : World} {k : IntKind} {x : Int} (h : w.cell? ⟨nb, 0, none⟩ = some (.int k x)) : cellNat nb w = x.toNat := by unfold cellNat; rw [h]

set_option maxRecDepth 100000 in
set_option maxHeartbeats 2000000 in
theorem digits_gives (n b : Int) (h0 : 0 ≤ n) (h1 : n ≤ 18446744073709551615) (hb : 2 ≤ b) (hb1 : b ≤ 18446744073709551615) (nb bb : Nat) (hne : nb ≠ bb) (W0 : World) (m : Nat) (hm : 1 ≤ m)
    (cn : W0.cell? ⟨nb, 0, none⟩ = some (.int .u64 n)) (cb : W0.cell? ⟨bb, 0, none⟩ = some (.int .u64 b)) (fn : W0.frozen? ⟨nb, 0, none⟩ = false) :
    Gives Fence.wide m Tryz.prog 168 #[.pointer (some ⟨nb, 0, none⟩), .pointer (some ⟨bb, 0, none⟩)] (fun x : Int => #[.int .u64 x]) (fun k => k = nb ∨ k = bb) (Nu.dig b n) W0 := by
  intro l J Jx W hW hJ hJx hY h00
  have hln : nb < W0.heap.size := block_lt_of_cell cn
  have hlb : bb < W0.heap.size := block_lt_of_cell cb
  have cn1 := hW.cell (.inl rfl) cn
  have cb1 := hW.cell (.inr rfl) cb
  have fn1 : W.frozen? ⟨nb, 0, none⟩ = false := (hW.frozen (.inl rfl) hln).trans fn
  clear cn cb fn hln hlb hW
  have hbz : (b == 0) = false := by simp; omega
  refine callsIn_of_wp Tryz.func168 rfl trivial ?_ rfl
  simp only [Tryz.ntmps168, List.size_toArray, List.length_cons, List.length_nil, Nat.reduceAdd, Nat.reduceSub, Array.replicate_succ, Array.replicate_zero, List.push_toArray, List.append_toArray, List.nil_append, List.cons_append]
  gi_wp2
  gi_loopw [16] (fun _ wr => ∃ (pre : List Int) (q : Int), 0 ≤ q ∧ q ≤ 18446744073709551615 ∧ Nu.dig b n = pre ++ Nu.dig b q ∧ J pre wr ∧ wr.cell? ⟨nb, 0, none⟩ = some (.int .u64 q) ∧ wr.cell? ⟨bb, 0, none⟩ = some (.int .u64 b) ∧ wr.frozen? ⟨nb, 0, none⟩ = false) (fun _ wr => cellNat nb wr)
  case atStart => exact ⟨[], n, h0, h1, rfl, h00, cn1, cb1, fn1⟩
  case round =>
    obtain ⟨pre, q, q0, q1, hx, hj, c1, c2, f1⟩ := hrel
    clear cn1 cb1 fn1 h00
    have M := Lib.hid (cellNat_of c1)
    have hmod : q % b < b := Int.emod_lt_of_pos _ (by omega)
    have hmod0 : 0 ≤ q % b := Int.emod_nonneg _ (by omega)
    have hn1 : nb < wr.heap.size := block_lt_of_cell c1
    by_cases hle : b ≤ q
    · have hx2 : Nu.dig b n = pre ++ q % b :: Nu.dig b (q / b) := by rw [hx, Nu.dig_more hb hle]
      obtain ⟨fn, tmps, assign, body, hy, hR⟩ := hY pre (q % b) (Nu.dig b (q / b)) wr hx2 hj
      have HX := Lib.hid hx2
      have hq0 : 0 ≤ q / b := Int.ediv_nonneg (by omega) (by omega)
      have hq1 : q / b ≤ q := Int.ediv_le_self _ (by omega)
      have hq2 : q / b < q := Int.ediv_lt_self_of_pos_of_ne_one (by omega) (by omega)
      clear hx hx2 hY
      gi_wp2
      refine hR.mono ?_
      rintro e W3 ⟨hh, (⟨rfl, hJ3⟩ | ⟨rfl, hJx3⟩)⟩
      · have c13 := hh.cell (.inl rfl) c1
        have c23 := hh.cell (.inr rfl) c2
        have f13 : W3.frozen? ⟨nb, 0, none⟩ = false := (hh.frozen (.inl rfl) hn1).trans f1
        clear hR hy c1 c2 f1
        gi_wp2
        go_roundw
        case rel => exact ⟨pre ++ [q % b], q / b, hq0, by omega, by rw [HX.out]; simp, hJ _ _ _ hJ3 (.setCell _ (.inl rfl) _), World.cell?_setCell_same' _ _ _ (by rw [c13]; rfl), by rw [World.cell?_setCell_other _ _ _ _ (by first | (simp; done) | (simp; omega))]; exact c23, by rw [World.frozen?_setCell]; exact f13⟩
        case measure => rw [M.out, cellNat_of (World.cell?_setCell_same' _ _ _ (by rw [c13]; rfl))]; omega
      · gi_wp2
        go_end0
        exact ⟨⟨_, rfl⟩, .inr ⟨pre ++ [q % b], ⟨Nu.dig b (q / b), by rw [HX.out]; simp⟩, hJx3⟩⟩
    · have hx2 : Nu.dig b n = pre ++ q % b :: [] := by rw [hx, Nu.dig_last (by omega)]
      obtain ⟨fn, tmps, assign, body, hy, hR⟩ := hY pre (q % b) [] wr hx2 hj
      have HX := Lib.hid hx2
      clear hx hx2 hY
      gi_wp2
      refine hR.mono ?_
      rintro e W3 ⟨hh, (⟨rfl, hJ3⟩ | ⟨rfl, hJx3⟩)⟩
      · have c13 := hh.cell (.inl rfl) c1
        have c23 := hh.cell (.inr rfl) c2
        clear hR hy c1 c2 f1
        gi_wp2
        go_end0
        exact ⟨⟨_, rfl⟩, .inl (by rw [HX.out]; exact hJ3)⟩
      · gi_wp2
        go_end0
        exact ⟨⟨_, rfl⟩, .inr ⟨pre ++ [q % b], ⟨[], by rw [HX.out]; simp⟩, hJx3⟩⟩
end Go.Proofs.YtmnhiagppicegaaGreat

/- How many bytes a number's decimals have, over any memory. Condition: the number fits its kind. -/
namespace Go.Proofs.YtmnhiagppicegaaGreat
open Go.RowKit Go.Shelf
attribute [local go_sem] Oper.semAt_some
set_option linter.unusedVariables false

def Nu.places (n : Int) : Int := (if n < 0 then 1 else 0) + (Nu.dig 10 n.natAbs).length

end Go.Proofs.YtmnhiagppicegaaGreat

/- slices.Reverse of bytes: the row is reversed in place, over any memory. No condition beyond the model's bound on a length. -/
namespace Go.Proofs.YtmnhiagppicegaaGreat
open Go.RowKit Go.Lib Go.Sort
set_option linter.unusedVariables false

set_option maxHeartbeats 1600000 in
set_option maxRecDepth 1000000 in
theorem reverse_arr (blk off cap : Nat) (d : Array Int) (w : World) (hH : Holds (Value.int .u8) w blk off d) (hsz : d.size ≤ 9223372036854775807) :
    Calls Tryz.prog 135 #[.slice (some ⟨blk, off, none⟩) d.size cap] w fun e w' => e = .returned (.tuple #[]) ∧ ∃ n, w' = putRow (Value.int .u8) (Sort.ahead w n) blk off d.reverse := by
  go_enter Tryz.func135, Tryz.ntmps135
  go_wp2
  go_loopg [2, 3] d.size (fun k s2 s3 wr => ∃ (i jn : Nat) (jz : Int) (dk : Array Int) (n : Nat), s2 = .int .i64 i ∧ s3 = .int .i64 jz ∧ ((i : Int) < jz → jz = jn ∧ jn < d.size) ∧ (¬ (i : Int) < jz → ¬ i < jn) ∧ jn - i ≤ k ∧
    dk.size = d.size ∧ wr = putRow (Value.int .u8) (Sort.ahead w n) blk off dk ∧ reverseLoop i jn dk = reverseLoop 0 (d.size - 1) d)
  case atStart => exact ⟨0, d.size - 1, (d.size : Int) - 1, d, 0, rfl, rfl, fun h => ⟨by omega, by omega⟩, fun h => by omega, by omega, rfl, (putRow_self _ w blk off d hH).symm, rfl⟩
  case round =>
    obtain ⟨i, jn, jz, dk, n, rfl, rfl, h1, h2, hk, hds, hwr, heq⟩ := hrel
    by_cases hlt : (i : Int) < jz
    · obtain ⟨rfl, hjn⟩ := h1 hlt
      have hij : i < jn := by omega
      have hHk : Holds (Value.int .u8) wr blk off dk := by rw [hwr]; exact holds_putRow _ _ blk off d dk (holds_ahead _ w n blk off d hH) hds
      obtain ⟨ci, fi⟩ := hHk i (by omega)
      obtain ⟨cj, fj⟩ := hHk jn (by omega)
      have A := Lib.hid hwr
      have HE := Lib.hid heq
      have HD := Lib.hid hds
      clear hwr hHk hH h1 h2 heq hds
      go_wp2_with fail
      go_region
      go_wp2
      go_roundg (jn - 1 - (i + 1))
      case measure => omega
      case rel =>
        have heq := HE.out
        have hds := HD.out
        rw [reverseLoop, if_pos hij] at heq
        exact ⟨i + 1, jn - 1, (jn : Int) - 1, swp dk i jn, n + 1, by simp, rfl, fun h => ⟨by omega, by omega⟩, fun h => by omega, Nat.le_refl _, by rw [size_swp]; exact hds,
          swap_world _ (by omega) (by omega) A.out (by first | rfl | simp [getElem!_pos, show jn < dk.size by omega]) (by first | rfl | simp [getElem!_pos, show i < dk.size by omega]), heq⟩
    · have hnot := h2 hlt
      have A := Lib.hid hwr
      have HE := Lib.hid heq
      clear hwr heq
      go_wp2
      go_end0
      have heq := HE.out
      refine ⟨rfl, n, ?_⟩
      rw [reverseLoop, if_neg hnot] at heq
      rw [← Lib.reverseLoop_reverse, ← heq, A.out]

/-- A row of the call's own, reversed. -/
theorem reverse_own (base : Nat) (v : Value) (n : Nat) (zs : List Int) (w : World) (h : w.ownsRow base 5 1 v n (zs.map (Value.int .u8))) (hn : 0 < n) (hsz : n ≤ 9223372036854775807) :
    Calls Tryz.prog 135 #[v] w fun e w' => e = .returned (.tuple #[]) ∧ w'.ownsRow base 5 1 v n (zs.reverse.map (Value.int .u8)) ∧ (∀ m w0, Below m w0 w → m ≤ base → Below m w0 w') ∧ (∀ g, v.ownBlock = some g → ∀ k, k ≠ g → w'.heap[k]? = w.heap[k]?) := by
  obtain ⟨g, cap, rfl, hb, hg, hle, hm, hl, hH⟩ := holds_of_ownsRow (enc := Value.int .u8) h (by rintro rfl; have := h.2; rcases this with ⟨_, h0⟩ | ⟨_, _, _, e, _⟩; omega; cases e)
  subst hl
  have := reverse_arr g 0 cap zs.toArray w hH (by simpa using hsz)
  simp only [List.size_toArray] at this
  refine this.mono ?_
  rintro e w' ⟨rfl, q, rfl⟩
  refine ⟨rfl, ?_, fun m w0 hB hm => below_putRow hB (by omega), fun g' hg' k hk => ?_⟩
  · have := ownsRow_putRow (q := q) h (ys := zs.reverse) (by simp) (Nat.le_refl _)
    rw [List.take_of_length_le (by simp)] at this
    rwa [List.reverse_toArray]
  · obtain rfl : g = g' := by simpa [Value.ownBlock] using hg'
    simp [putRow, mapBlock, Sort.ahead, Array.getElem?_modify, Ne.symm hk]
end Go.Proofs.YtmnhiagppicegaaGreat

/- A number's decimals, over any memory. Condition: the number fits its kind. -/
namespace Go.Proofs.YtmnhiagppicegaaGreat
open Go.RowKit Go.Shelf
attribute [local go_sem] Oper.semAt_some
set_option linter.unusedVariables false

theorem conv_own {W : World} {base : Nat} {g n cap : Nat} {zs : List Int} (h : W.ownsRow base 5 1 (.slice (some ⟨g, 0, none⟩) n cap) n (zs.map (Value.int .u8))) (hn : zs.length = n) :
    (convert 43 9 (.slice (some ⟨g, 0, none⟩) n cap)).run Tryz.prog W = .ok (.string (strOfNums zs)) W :=
  run_convert_bytes_arg (P := Tryz.prog) W 43 5 Tryz.underlying43 Tryz.underlying5 g 0 n cap zs hn (fun i hi => by
    rw [Nat.zero_add, h.cellAt i (by omega), List.getElem?_map, List.getElem?_eq_getElem (by omega), List.getD_eq_getElem?_getD, List.getElem?_eq_getElem (by omega)]; rfl) 9 Tryz.underlying9
theorem Tryz.info_byte : (Tryz.prog.info? 5).map (fun i => (i.zero, i.size, i.bytes)) = some (some (.int .u8 0), 1, 1) := by kernel_rfl

set_option maxRecDepth 100000 in
set_option maxHeartbeats 4000000 in
theorem decimal_any (n : Int) (hn : Nu.I n) (w : World) :
    Calls Tryz.prog 87 #[.int .i64 n] w fun e w' => e = .returned (.string (strOfNums (Nu.decV n))) ∧ Below w.heap.size w w' := by
  have hlen := Nu.dig_len64 (b := 10) (n := n.natAbs) (by omega) (by unfold Nu.I at hn; omega)
  have hna : (n.natAbs : Int) ≤ 18446744073709551615 := by unfold Nu.I at hn; omega
  have hdl := Lib.hid (Nu.dig_lt (b := 10) (by omega) n.natAbs)
  have hne0 := Lib.hid (Nu.dig_ne 10 n.natAbs)
  obtain ⟨i0, hi, hz0, hz1, hz2⟩ := info_parts Tryz.info_byte
  refine calls_of_marks Tryz.func87 rfl ?_
  simp only [Tryz.ntmps87, List.size_toArray, List.length_cons, List.length_nil, Nat.reduceAdd, Nat.reduceSub, Array.replicate_succ, Array.replicate_zero, List.push_toArray, List.append_toArray, List.nil_append, List.cons_append]
  go_wp2_with (first | (go_at_call 134; refine (size_any n hn _).mono ?_; rintro e w1 ⟨rfl, rfl⟩) | (go_at_call 133; refine (digits_made _ _ _).mono ?_; rintro e w2 ⟨nb, bb, rfl, hne, l1, l2, cn, cb, fn, hb⟩))
  have hv0 : Boxed w2 w.heap.size 43 (.slice none 0 0) := (hb.block _ (by simp)).trans (Boxed.new w _ _)
  have hbel : Below w.heap.size w w2 := ((Below.refl _ w).alloc (Nat.le_refl _) _).trans (hb.mono (by simp))
  have ln : nb < w2.heap.size := block_lt_of_cell cn
  have lb : bb < w2.heap.size := block_lt_of_cell cb
  simp only [World.size_alloc] at l1 l2
  have hws := hbel.size
  have hz : ¬ ((w.heap.size = nb ∨ w.heap.size = bb) ∨ w.heap.size = w2.heap.size ∨ w.heap.size = w2.heap.size + 1) := by omega
  have hzb : ∀ k, w2.heap.size + 2 ≤ k → ¬ ((k = nb ∨ k = bb) ∨ k = w2.heap.size ∨ k = w2.heap.size + 1) := by intro k hk; omega
  refine range_wp (gf := 168) (lb := #[.pointer (some ⟨nb, 0, none⟩), .pointer (some ⟨bb, 0, none⟩)]) rfl (enters_of Tryz.func168 (by kernel_rfl) rfl)
    (digits_gives n.natAbs 10 (by omega) hna (by omega) (by omega) nb bb hne w2 2 (by omega) cn cb fn) (by rintro k (rfl | rfl) <;> assumption) (fun _ => rfl)
    (fun pre W => ∃ v, Boxed W w.heap.size 43 v ∧ W.ownsRow (w2.heap.size + 2) 5 1 v pre.length ((pre.map (48 + ·)).map (Value.int .u8)) ∧ Below w.heap.size w W)
    (fun _ _ _ => False) ?hI (fun _ _ _ _ hh _ => hh) ⟨_, hv0, World.ownsRow_nil _ _ _ _, hbel⟩ ?_ ?assign ?body ?done ?stop
  case hI =>
    rintro p A B ⟨v, h1, h2, h4⟩ hs
    exact ⟨v, boxed_sep h1 hs hz, ownsRow_sep h2 hs hzb, h4.trans (hs.below h4.size (by intro k hk; omega))⟩
  case assign =>
    intro l x W K hK
    gi_wp2
    exact hK
  case body =>
    rintro l pre x rest W hx hlt ⟨v, hv, hrow, hB⟩
    have hp : (pre.length : Int) ≤ 65 := by have := congrArg List.length hx; simp at this; omega
    obtain ⟨x0, x1⟩ := hdl.out x (by rw [hx]; simp)
    clear hx cn cb fn hb hv0
    have hW := hB.size
    have hvc := hv.cell
    gi_wp2_with (gi_at_builtin; refine wpListIn_append_own _ rfl _ _ 43 rfl (w2.heap.size + 2) 5 i0 (.int .u8 0) 1 1 Tryz.underlying43 hi hz0 hz1 hz2 rfl (by decide) _ _ _ rfl (hrow.alloc _) ⟨W.heap.size, 0, none⟩ 1 1 [.int .u8 (48 + x)] rfl rfl (cell_one_new _ _ _) (by simp [Value.oneCell']) (by unfold maxLen; omega) (by omega) (by simp; omega) ?_; intro v' w1 hown' hgrow _; obtain ⟨g', cap', rfl⟩ := ownsRow_succ hown'; obtain ⟨hv1, hv2, hr2, hh2, hb2⟩ := pushed hv (by decide) hrow hown' hgrow; have hc1 := hv1.cell; have hf1 := hv1.frozen)
    exact ⟨hh2 _ hz hzb, _, hv2, by simpa using hr2, hB.trans (hb2 _ (Nat.le_refl _) (by omega) hW)⟩
  case done =>
    rintro W ⟨v, hv, hrow, hB⟩ hK
    obtain ⟨m, hm⟩ : ∃ m, (Nu.dig 10 n.natAbs).length = m + 1 := by
      have := hne0.out
      cases hd : Nu.dig 10 n.natAbs with
      | nil => exact absurd hd this
      | cons a b => exact ⟨b.length, rfl⟩
    have hW := hB.size
    have hm65 : (m : Int) ≤ 64 := by omega
    have hlW : w2.heap.size < W.heap.size := (Array.getElem?_eq_some_iff.1 hK).1
    have HM := Lib.hid hm
    have HN := hn
    rw [hm] at hrow
    obtain ⟨g, cap, rfl⟩ := ownsRow_succ hrow
    have hvc := hv.cell
    have hgB : w2.heap.size + 2 ≤ g := (hrow.lt g rfl).1
    clear hm cn cb fn hb hv0 hlen hn
    by_cases hneg : n < 0
    · have HB : Hid (Nu.backV n = (Nu.dig 10 n.natAbs).map (48 + ·) ++ [45]) := by show _ = _; unfold Nu.backV; rw [if_pos hneg]
      go_wp2_with (first
        | (at_builtin; refine wpList_append_own _ rfl _ _ 43 rfl (w2.heap.size + 2) 5 i0 (.int .u8 0) 1 1 Tryz.underlying43 hi hz0 hz1 hz2 rfl (by decide) _ _ _ rfl (hrow.alloc _) ⟨W.heap.size, 0, none⟩ 1 1 [.int .u8 45] rfl rfl (cell_one_new _ _ _) (by simp [Value.oneCell']) (by unfold maxLen; omega) (by omega) (by simp; omega) ?_; intro v' w1 hown' hgrow _; obtain ⟨g', cap', rfl⟩ := ownsRow_succ hown'; obtain ⟨hv1, hv2, hr2, hh2, hb2⟩ := pushed hv (by decide) hrow hown' hgrow; have hc1 := hv1.cell; have hf1 := hv1.frozen; have hc2 := hv2.cell; have HR := Lib.hid (show World.ownsRow _ (w2.heap.size + 2) 5 1 _ (m + 1 + 1) (((Nu.dig 10 n.natAbs).map (48 + ·) ++ [45]).map (Value.int .u8)) by rw [List.map_append]; exact hr2); have hB2 := hB.trans (hb2 _ (Nat.le_refl _) (by omega) hW); have HK2 := Lib.hid (((hh2 (fun k => k = w2.heap.size) (by omega) (by intro k hk; omega)).block _ hlW rfl).trans hK); have hg' := (hown'.lt g' rfl).1; have HV2 := Lib.hid hv2; clear hr2 hh2 hb2 hv2)
        | (go_at_call 135; refine (reverse_own _ _ (m + 1 + 1) _ _ HR.out (by omega) (by omega)).mono ?_; rintro e w3 ⟨rfl, hr3, hB3, hk3⟩; have hv3 : Boxed w3 w.heap.size 43 (.slice (some ⟨g', 0, none⟩) (m + 1 + 1) cap') := (hk3 g' rfl _ (by omega)).trans HV2.out; have hv3c := hv3.cell; have hcv := conv_own hr3 (by simp [HM.out]); have HK3 := Lib.hid ((hk3 g' rfl w2.heap.size (by omega)).trans HK2.out); have hB4 := hB3 _ _ hB2 (by omega); clear hk3 hB3))
      refine ret_mark HK3.out (results_tmp rfl _ _ _) ⟨?_, Below.putObj hB4 (by omega) _⟩
      unfold Nu.decV
      rw [HB.out, List.reverse_append]
      rfl
    · have HB : Hid (Nu.backV n = (Nu.dig 10 n.natAbs).map (48 + ·)) := by show _ = _; unfold Nu.backV; rw [if_neg hneg, List.append_nil]
      have hcont : ∀ W', W = W' → Calls Tryz.prog 135 #[.slice (some ⟨g, 0, none⟩) (m + 1) cap] W' fun e w' => e = .returned (.tuple #[]) ∧ w'.ownsRow (w2.heap.size + 2) 5 1 (.slice (some ⟨g, 0, none⟩) (m + 1) cap) (m + 1) (((Nu.dig 10 n.natAbs).map (48 + ·)).reverse.map (Value.int .u8)) ∧ Below w.heap.size w w' ∧ (∀ k, k ≠ g → w'.heap[k]? = W.heap[k]?) := by
        rintro W' rfl
        refine (reverse_own _ _ (m + 1) _ W hrow (by omega) (by omega)).mono ?_
        rintro e w' ⟨rfl, h1, h2, h3⟩
        exact ⟨rfl, h1, h2 _ _ hB (by omega), h3 g rfl⟩
      have HC := Lib.hid hcont
      clear hcont
      go_wp2_with (go_at_call 135; refine (HC.out _ rfl).mono ?_; rintro e w3 ⟨rfl, hr3, hB3, hk3⟩; have hv3 : Boxed w3 w.heap.size 43 (.slice (some ⟨g, 0, none⟩) (m + 1) cap) := (hk3 _ (by omega)).trans hv; have hv3c := hv3.cell; have hcv := conv_own hr3 (by simp [HM.out]); have HK3 := Lib.hid ((hk3 w2.heap.size (by omega)).trans hK); clear hk3)
      refine ret_mark HK3.out (results_tmp rfl _ _ _) ⟨?_, Below.putObj hB3 (by omega) _⟩
      unfold Nu.decV
      rw [HB.out]
      rfl
  case stop =>
    rintro c pre W _ hh _
    exact hh.elim
end Go.Proofs.YtmnhiagppicegaaGreat

/- A text's first bytes, over any memory. No condition. -/
namespace Go.Proofs.YtmnhiagppicegaaGreat
open Go.RowKit
end Go.Proofs.YtmnhiagppicegaaGreat

/- A head that was parsed without an error may be. No condition. -/
namespace Go.Proofs.YtmnhiagppicegaaGreat
namespace Hd
set_option linter.unusedVariables false
/-- what the numbers of a reader are -/
def Vals (l : L) (s : S) : Prop := (1 ≤ s.i → 1 ≤ s.v0 ∧ s.v0 ≤ l.m0) ∧ (2 ≤ s.i → 1 ≤ s.v1 ∧ s.v1 ≤ l.m1) ∧ (3 ≤ s.i → 1 ≤ s.v2 ∧ s.v2 ≤ l.m2) ∧ (s.i < 3 → s.v2 = 1) ∧ (s.p = 4 → s.i = many s.kd)
theorem vals_new (l : L) : Vals l new := ⟨fun h => absurd h (by decide), fun h => absurd h (by decide), fun h => absurd h (by decide), fun _ => rfl, fun h => absurd h (by decide)⟩
theorem vals_wrong {l : L} {s : S} (h : Vals l s) (e : Int) : Vals l (s.wrong e) := ⟨h.1, h.2.1, h.2.2.1, h.2.2.2.1, fun h => absurd h (by simp [S.wrong])⟩
theorem vals_take {l : L} {s : S} (h : Vals l s) (hi : s.i < many s.kd) {t : Tk.S} (ht : 0 ≤ t.n ∧ t.n ≤ l.at s.i) : Vals l (take s t) := by
  obtain ⟨h1, h2, h3, h4, h5⟩ := h
  have hm := many_at s.kd
  unfold take
  split
  · exact vals_wrong ⟨h1, h2, h3, h4, h5⟩ _
  split
  · split
    · exact vals_wrong ⟨h1, h2, h3, h4, h5⟩ _
    · rename_i hn
      unfold L.at at ht
      have hc : s.i = 0 ∨ s.i = 1 ∨ s.i = 2 := by omega
      unfold S.num Vals
      simp only
      rcases hc with e | e | e
      · rw [if_pos e] at ht
        rw [e] at h4 ⊢
        refine ⟨fun _ => by rw [if_pos rfl]; omega, fun h => by omega, fun h => by omega, fun _ => by rw [if_neg (by omega)]; exact h4 (by omega), fun h => ?_⟩
        by_cases h9 : 0 + 1 = many s.kd
        · exact h9
        · rw [if_neg h9] at h; omega
      · rw [if_neg (by omega), if_pos e] at ht
        have h1' := h1 (by omega)
        rw [e] at h4 ⊢
        refine ⟨fun _ => by rw [if_neg (by omega)]; exact h1', fun h => by rw [if_pos rfl]; omega, fun h => by omega, fun _ => by rw [if_neg (by omega)]; exact h4 (by omega), fun h => ?_⟩
        by_cases h9 : 1 + 1 = many s.kd
        · exact h9
        · rw [if_neg h9] at h; omega
      · rw [if_neg (by omega), if_neg (by omega)] at ht
        have h1' := h1 (by omega)
        have h2' := h2 (by omega)
        rw [e] at h4 ⊢
        refine ⟨fun _ => by rw [if_neg (by omega)]; exact h1', fun h => by rw [if_neg (by omega)]; exact h2', fun h => by rw [if_pos (by omega)]; omega, fun h => by omega, fun h => ?_⟩
        by_cases h9 : 2 + 1 = many s.kd
        · exact h9
        · rw [if_neg h9] at h; omega
  · exact ⟨h1, h2, h3, h4, fun h => absurd h (by simp [S.tok])⟩
theorem vals_put {l : L} {s : S} (hg : Good l s) (h : Vals l s) (c : Int) : Vals l (put l s c) := by
  have h' := h
  obtain ⟨h1, h2, h3, h4, h5⟩ := h
  obtain ⟨g1, g2, g3, g4, g5, g6, g7, g8⟩ := hg
  unfold put
  split
  · split
    · exact ⟨h1, h2, h3, h4, fun h => absurd h (by simp)⟩
    · exact vals_wrong h' _
  split
  · rename_i hp0 hp
    split
    · obtain ⟨a1, a2, a3, a4, a5⟩ := g3 (by omega)
      exact ⟨h1, h2, h3, h4, fun h => absurd h (by simp)⟩
    · exact vals_wrong h' _
  split
  · rename_i hp0 hp1 hp
    split
    · exact vals_take h' (g6 (by omega)) ⟨(Tk.good_put (g2 (by omega)).1 c).2.1, (Tk.good_put (g2 (by omega)).1 c).2.2.1⟩
    · exact vals_wrong h' _
  split
  · exact vals_take h' (g6 (by omega)) ⟨(Tk.good_put (g2 (by omega)).1 c).2.1, (Tk.good_put (g2 (by omega)).1 c).2.2.1⟩
  · exact h'
theorem parse_vals {l : L} (hl : l.Ok) : ∀ (x : List Int) (s : S) (i : Nat), Good l s → Vals l s → s.p ≤ 3 → (parseF l s i x).2.2 = 0 → ∃ z : S, (parseF l s i x).1 = hd z ∧ Good l z ∧ Vals l z ∧ z.p = 4 ∧ (parseF l s i x).2.1 ≤ (i : Int) + x.length
  | [], s, i, h, hv, hp, he => by rw [parse_nil i hp] at he; simp at he
  | c :: cs, s, i, h, hv, hp, he => by
    rw [parse_cons i c cs hp] at he ⊢
    have hg := good_put hl h c
    have hv' := vals_put h hv c
    by_cases h4 : (put l s c).p = 4
    · rw [parse_over _ _ h4]
      exact ⟨_, rfl, hg, hv', h4, by simp only [List.length_cons]; omega⟩
    by_cases h5 : (put l s c).p = 5
    · rw [parse_wrong _ _ h5] at he
      have := hg.2.2.2.2.2.2.1 h5
      simp only at he; omega
    · have := hg.1
      obtain ⟨z, a1, a2, a3, a4, a5⟩ := parse_vals hl cs (put l s c) (i + 1) hg hv' (by omega) he
      exact ⟨z, a1, a2, a3, a4, by rw [List.length_cons]; omega⟩
theorem parse_may (a b c : Int) (x : List Int) (he : (parseV (limits a b c) x).2.2 = 0) : May (parseV (limits a b c) x).1 ∧ 1 ≤ (parseV (limits a b c) x).2.1 ∧ (parseV (limits a b c) x).2.1 ≤ x.length := by
  have hl := limits_ok a b c
  obtain ⟨z, h1, hg, hv, h4, h5⟩ := parse_vals hl x new 0 (good_new hl) (vals_new _) (by decide) he
  obtain ⟨e1, e2, e3⟩ := parse_ends hl x new 0 (good_new hl) (by decide)
  have hk := hg.2.2.2.2.1 (by omega) (by omega)
  obtain ⟨v1, v2, v3, v4, v5⟩ := hv
  have hm := many_at z.kd
  have q0 := lim_at (n := a) (hi := 4096) (by omega)
  have q1 := lim_at (n := b) (hi := 65536) (by omega)
  have q2 := lim_at (n := c) (hi := 65535) (by omega)
  have u5 := v5 h4
  have u1 := v1 (by omega)
  have u2 := v2 (by omega)
  simp only [limits] at u1 u2 v3
  unfold parseV at *
  refine ⟨?_, by have := e2 (by rw [he]; omega); omega, by omega⟩
  rw [h1]
  unfold hd May
  refine ⟨hk, ⟨u1.1, by simp only; omega⟩, ⟨u2.1, by simp only; omega⟩, ?_, fun hb => ?_⟩
  · by_cases h3 : z.i < 3
    · have := v4 h3; simp only; omega
    · have := v3 (by omega); simp only; omega
  · have : many z.kd = 2 := many_bits hb
    exact v4 (by omega)
end Hd
end Go.Proofs.YtmnhiagppicegaaGreat

/- A slice of bytes as a text, over any memory. No condition. -/
namespace Go.Proofs.YtmnhiagppicegaaGreat
open Go.RowKit
set_option linter.unusedVariables false
/-- a slice of bytes, as a text -/
theorem Cv.conv_slk {W : World} {a : Option Addr} {len cap : Nat} {zs : List Int} (h : SlK .u8 W a len zs) : (convert 43 9 (.slice a len cap)).run Tryz.prog W = .ok (.string (strOfNums zs)) W := by
  obtain ⟨h1, h2⟩ := h
  rcases h2 with rfl | ⟨blk, off, rfl, hc⟩
  · obtain rfl : zs = [] := List.eq_nil_of_length_eq_zero h1
    rw [run_convert_bytes_string W _ _ _ a 0 cap Tryz.underlying43 Tryz.underlying5 Tryz.underlying9]
    rcases a with _ | a
    · simp [Conv.bytesToString]; rfl
    · rw [run_bytesToString W a 0 cap [] (by simpa using run_loadCells_list (P := Tryz.prog) W a [] (fun j u hj => by simp at hj))]; rfl
  · exact run_convert_bytes_arg (P := Tryz.prog) W _ _ Tryz.underlying43 Tryz.underlying5 blk off len cap zs h1 hc _ Tryz.underlying9
end Go.Proofs.YtmnhiagppicegaaGreat

/- A part of a part; what a law's walk starts from. No condition. -/
namespace Go.Proofs.YtmnhiagppicegaaGreat
open Go.RowKit
set_option linter.unusedVariables false

namespace Rc
end Rc
/-- four cells in a block of the call's own -/
def P4 (w : World) (b : Nat) (t : TypeId) (p0 p1 p2 p3 : Int) : Prop := w.heap[b]? = some (.cells #[.int .i64 p0, .int .i64 p1, .int .i64 p2, .int .i64 p3] t (0, 0))
theorem P4.cells {w : World} {b : Nat} {t : TypeId} {p0 p1 p2 p3 : Int} (h : P4 w b t p0 p1 p2 p3) : w.cell? ⟨b, 0, none⟩ = some (.int .i64 p0) ∧ w.cell? ⟨b, 1, none⟩ = some (.int .i64 p1) ∧ w.cell? ⟨b, 2, none⟩ = some (.int .i64 p2) ∧ w.cell? ⟨b, 3, none⟩ = some (.int .i64 p3) := by
  have h' : w.heap[b]? = _ := h
  refine ⟨?_, ?_, ?_, ?_⟩ <;> simp [World.cell?, h']
theorem P4.lt {w : World} {b : Nat} {t : TypeId} {p0 p1 p2 p3 : Int} (h : P4 w b t p0 p1 p2 p3) : b < w.heap.size := (Array.getElem?_eq_some_iff.1 h).1
theorem P4.later {w w' : World} {b : Nat} {t : TypeId} {p0 p1 p2 p3 : Int} (h : P4 w b t p0 p1 p2 p3) (hb : Below w.heap.size w w') : P4 w' b t p0 p1 p2 p3 := (hb.block b h.lt).trans h
theorem P4.drew {w : World} {b : Nat} {t : TypeId} {p0 p1 p2 p3 : Int} (h : P4 w b t p0 p1 p2 p3) : P4 w.drew b t p0 p1 p2 p3 := h
end Go.Proofs.YtmnhiagppicegaaGreat

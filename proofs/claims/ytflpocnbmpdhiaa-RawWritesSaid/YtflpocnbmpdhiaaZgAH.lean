/- Join of strings, and what a builder of strings takes and hands back, by the library's contracts. No condition. -/
import Derived.Shelf.Strings.Builder1
import Derived.Shelf.Strings.Builder2
import Derived.Shelf.Strings.OnBuilder
import Derived.Test.YtflpocnbmpdhiaaProg
import Derived.WalkKit
import Derived.WalkSpells
import Derived.WalkLawsBesides
import Derived.Deep.LoopGhost
import Derived.RegionTactic
import Derived.Lib.Walk
import Derived.Sort.WalkB12
import Derived.Lib.SlicesMore
import Derived.Lib.OwnBridge
import Derived.Handy
import Derived.Lib.Hide
import Derived.Test.YtflpocnbmpdhiaaZgAF
import Derived.Test.YtflpocnbmpdhiaaZgAA
import Derived.Test.YtflpocnbmpdhiaaZgAB
import Derived.RegionIn
import Derived.Test.YtflpocnbmpdhiaaZRwM
import Derived.Test.YtflpocnbmpdhiaaZRwJ
import Derived.Test.YtflpocnbmpdhiaaZRwPy
import Derived.Deep.DeepCutAuto
import Derived.Lib.AppendStr
namespace Go.Proofs.Ytflpocnbmpdhiaa
open Go.Shelf Go.RowKit
def Sh.lays156_ren : Go.Shelf.Ren := ⟨fun | 156 => 100 | 165 => 123 | 166 => 74 | 169 => 76 | 240 => 98 | 241 => 137 | 276 => 119 | 277 => 143 | n => n, fun | 31 => 34 | 9 => 9 | 3 => 3 | 4 => 4 | 0 => 0 | 20 => 20 | 72 => 122 | 76 => 125 | 70 => 120 | 37 => 33 | 75 => 124 | 127 => 143 | 164 => 165 | 5 => 5 | 80 => 128 | n => n, fun | n => n⟩
theorem Sh.lays156 : Go.Proofs.Lays.n156 Try.prog Sh.lays156_ren := {
  mixed := by kernel_rfl
  f156 := Try.func100.trans (congrArg some (by kernel_rfl))
  f165 := Try.func123.trans (congrArg some (by kernel_rfl))
  f166 := Try.func74.trans (congrArg some (by kernel_rfl))
  f169 := Try.func76.trans (congrArg some (by kernel_rfl))
  f240 := Try.func98.trans (congrArg some (by kernel_rfl))
  f241 := Try.func137.trans (congrArg some (by kernel_rfl))
  f276 := Try.func119.trans (congrArg some (by kernel_rfl))
  f277 := Try.func143.trans (congrArg some (by kernel_rfl))
  t0 := Try.underlying0
  a0 := Try.isAgg0
  z0 := Try.sizeOf0
  v0 := Try.zeroValue0
  t3 := Try.underlying3
  a3 := Try.isAgg3
  z3 := Try.sizeOf3
  v3 := Try.zeroValue3
  t4 := Try.underlying4
  a4 := Try.isAgg4
  z4 := Try.sizeOf4
  v4 := Try.zeroValue4
  t9 := Try.underlying9
  a9 := Try.isAgg9
  z9 := Try.sizeOf9
  v9 := Try.zeroValue9
  t20 := Try.underlying20
  a20 := Try.isAgg20
  z20 := Try.sizeOf20
  v20 := Try.zeroValue20
  t31 := Try.underlying34
  a31 := Try.isAgg34
  z31 := Try.sizeOf34
  v31 := Try.zeroValue34
  t37 := Try.underlying33
  a37 := Try.isAgg33
  z37 := Try.sizeOf33
  v37 := Try.zeroValue33
  t70 := Try.underlying120
  a70 := Try.isAgg120
  z70 := Try.sizeOf120
  v70 := Try.zeroValue120
  t72 := Try.underlying122
  a72 := Try.isAgg122
  z72 := Try.sizeOf122
  v72 := Try.zeroValue122
  t75 := Try.underlying124
  a75 := Try.isAgg124
  z75 := Try.sizeOf124
  v75 := Try.zeroValue124
  t76 := Try.underlying125
  a76 := Try.isAgg125
  z76 := Try.sizeOf125
  v76 := Try.zeroValue125
  t127 := Try.underlying143
  a127 := Try.isAgg143
  z127 := Try.sizeOf143
  v127 := Try.zeroValue143
  t164 := Try.underlying165
  a164 := Try.isAgg165
  z164 := Try.sizeOf165
  v164 := Try.zeroValue165 }
theorem Sh.Builder_Extra_156 : Builder.Extra Try.prog Sh.lays156_ren := {
  sizeBuilder := by kernel_rfl
  liesBuilder := by kernel_rfl
  t5 := Try.underlying5
  a5 := Try.isAgg5
  z5 := Try.sizeOf5
  v5 := Try.zeroValue5
  infoByte := by kernel_rfl
  cellsByte := by kernel_rfl
  sizeByte := by kernel_rfl
  neB5 := by decide }
theorem Sh.lays166 : Go.Proofs.Lays.n166 Try.prog Sh.lays156_ren := {
  mixed := Sh.lays156.mixed,
  f166 := Sh.lays156.f166,
  f240 := Sh.lays156.f240,
  f276 := Sh.lays156.f276,
  t0 := Sh.lays156.t0,
  a0 := Sh.lays156.a0,
  z0 := Sh.lays156.z0,
  v0 := Sh.lays156.v0,
  t3 := Sh.lays156.t3,
  a3 := Sh.lays156.a3,
  z3 := Sh.lays156.z3,
  v3 := Sh.lays156.v3,
  t4 := Sh.lays156.t4,
  a4 := Sh.lays156.a4,
  z4 := Sh.lays156.z4,
  v4 := Sh.lays156.v4,
  t9 := Sh.lays156.t9,
  a9 := Sh.lays156.a9,
  z9 := Sh.lays156.z9,
  v9 := Sh.lays156.v9,
  t20 := Sh.lays156.t20,
  a20 := Sh.lays156.a20,
  z20 := Sh.lays156.z20,
  v20 := Sh.lays156.v20,
  t37 := Sh.lays156.t37,
  a37 := Sh.lays156.a37,
  z37 := Sh.lays156.z37,
  v37 := Sh.lays156.v37,
  t70 := Sh.lays156.t70,
  a70 := Sh.lays156.a70,
  z70 := Sh.lays156.z70,
  v70 := Sh.lays156.v70,
  t72 := Sh.lays156.t72,
  a72 := Sh.lays156.a72,
  z72 := Sh.lays156.z72,
  v72 := Sh.lays156.v72,
  t75 := Sh.lays156.t75,
  a75 := Sh.lays156.a75,
  z75 := Sh.lays156.z75,
  v75 := Sh.lays156.v75,
  t164 := Sh.lays156.t164,
  a164 := Sh.lays156.a164,
  z164 := Sh.lays156.z164,
  v164 := Sh.lays156.v164 }
theorem Sh.lays169 : Go.Proofs.Lays.n169 Try.prog Sh.lays156_ren := {
  mixed := Sh.lays156.mixed,
  f169 := Sh.lays156.f169,
  t0 := Sh.lays156.t0,
  a0 := Sh.lays156.a0,
  z0 := Sh.lays156.z0,
  v0 := Sh.lays156.v0,
  t3 := Sh.lays156.t3,
  a3 := Sh.lays156.a3,
  z3 := Sh.lays156.z3,
  v3 := Sh.lays156.v3,
  t9 := Sh.lays156.t9,
  a9 := Sh.lays156.a9,
  z9 := Sh.lays156.z9,
  v9 := Sh.lays156.v9,
  t37 := Sh.lays156.t37,
  a37 := Sh.lays156.a37,
  z37 := Sh.lays156.z37,
  v37 := Sh.lays156.v37,
  t70 := Sh.lays156.t70,
  a70 := Sh.lays156.a70,
  z70 := Sh.lays156.z70,
  v70 := Sh.lays156.v70,
  t72 := Sh.lays156.t72,
  a72 := Sh.lays156.a72,
  z72 := Sh.lays156.z72,
  v72 := Sh.lays156.v72,
  t127 := Sh.lays156.t127,
  a127 := Sh.lays156.a127,
  z127 := Sh.lays156.z127,
  v127 := Sh.lays156.v127 }
theorem Sh.lays240 : Go.Proofs.Lays.n240 Try.prog Sh.lays156_ren := {
  mixed := Sh.lays156.mixed,
  f240 := Sh.lays156.f240,
  f276 := Sh.lays156.f276,
  t0 := Sh.lays156.t0,
  a0 := Sh.lays156.a0,
  z0 := Sh.lays156.z0,
  v0 := Sh.lays156.v0,
  t4 := Sh.lays156.t4,
  a4 := Sh.lays156.a4,
  z4 := Sh.lays156.z4,
  v4 := Sh.lays156.v4,
  t9 := Sh.lays156.t9,
  a9 := Sh.lays156.a9,
  z9 := Sh.lays156.z9,
  v9 := Sh.lays156.v9,
  t20 := Sh.lays156.t20,
  a20 := Sh.lays156.a20,
  z20 := Sh.lays156.z20,
  v20 := Sh.lays156.v20,
  t70 := Sh.lays156.t70,
  a70 := Sh.lays156.a70,
  z70 := Sh.lays156.z70,
  v70 := Sh.lays156.v70,
  t72 := Sh.lays156.t72,
  a72 := Sh.lays156.a72,
  z72 := Sh.lays156.z72,
  v72 := Sh.lays156.v72,
  t164 := Sh.lays156.t164,
  a164 := Sh.lays156.a164,
  z164 := Sh.lays156.z164,
  v164 := Sh.lays156.v164 }
theorem sh_write (B b : Nat) (bs : List Value) (s : ByteArray) (w : World) (h : Lib.IsBuilder 122 5 B b bs w) (hlen : bs.length + s.size ≤ 140737488355328) (hBw : B ≤ w.heap.size) :
    Calls Try.prog 74 #[.pointer (some ⟨b, 0, none⟩), .string s] w fun e w' => e = .returned (.tuple #[.int .i64 s.size, .nilIface]) ∧ (Lib.BuilderAt 122 5 B b (.pointer (some ⟨b, 0, none⟩)) (bs ++ Lib.strCells s) w' ∧ Below B w w') := Any.Builder_WriteString Sh.lays166 Sh.Builder_Extra_156 B b bs s w h hlen hBw
theorem sh_string (B b : Nat) (l : List UInt8) (w : World) (h : Lib.IsBuilder 122 5 B b (Lib.byteCells l) w) (hBw : B ≤ w.heap.size) :
    Calls Try.prog 76 #[.pointer (some ⟨b, 0, none⟩)] w fun e w' => e = .returned (.string ⟨l.toArray⟩) ∧ Below B w w' := Any.Builder_String_any Sh.lays169 Sh.Builder_Extra_156 B b l w h hBw
theorem sh_join_none (a : Option Addr) (c : Nat) (sep : ByteArray) (w : World) :
    Calls Try.prog 100 #[.slice a 0 c, .string sep] w fun e w' => e = .returned (.string ⟨#[]⟩) ∧ w' = w := Any.strings_Join_none Sh.lays156 Sh.Builder_Extra_156 a c sep w
theorem sh_join (bk o c : Nat) (xs : List ByteArray) (sep : ByteArray) (w : World) (hcells : ∀ (j : Nat) x, xs[j]? = some x → w.cell? ⟨bk, o + j, none⟩ = some (.string x)) (hbk : bk < w.heap.size) (hN : xs.length ≤ 140737488355328) (hcap : xs.length ≤ c) (hlen : (Lib.join (xs.map (·.data.toList)) sep.data.toList).length ≤ 140737488355328) :
    Calls Try.prog 100 #[.slice (some ⟨bk, o, none⟩) xs.length c, .string sep] w fun e w' => e = .returned (.string ⟨(Lib.join (xs.map (·.data.toList)) sep.data.toList).toArray⟩) ∧ Below w.heap.size w w' := Any.strings_Join Sh.lays156 Sh.Builder_Extra_156 bk o c xs sep w hcells hbk hN hcap hlen
end Go.Proofs.Ytflpocnbmpdhiaa

/- slices.Reverse of bytes: the row is reversed in place, over any memory. No condition beyond the model's bound on a length. -/
namespace Go.Proofs.Ytflpocnbmpdhiaa
open Go.RowKit Go.Lib Go.Sort
set_option linter.unusedVariables false

set_option maxHeartbeats 1600000 in
set_option maxRecDepth 1000000 in
theorem reverse_arr (blk off cap : Nat) (d : Array Int) (w : World) (hH : Holds (Value.int .u8) w blk off d) (hsz : d.size ≤ 9223372036854775807) :
    Calls Try.prog 122 #[.slice (some ⟨blk, off, none⟩) d.size cap] w fun e w' => e = .returned (.tuple #[]) ∧ ∃ n, w' = putRow (Value.int .u8) (Sort.ahead w n) blk off d.reverse := by
  go_enter Try.func122, Try.ntmps122
  go_wp2
  go_loopg [2, 3] d.size (fun k s2 s3 wr => ∃ (i jn : Nat) (jz : Int) (dk : Array Int) (n : Nat), s2 = .int .i64 i ∧ s3 = .int .i64 jz ∧ ((i : Int) < jz → jz = jn ∧ jn < d.size) ∧ (¬ (i : Int) < jz → ¬ i < jn) ∧ jn - i ≤ k ∧
    dk.size = d.size ∧ wr = putRow (Value.int .u8) (Sort.ahead w n) blk off dk ∧ reverseLoop i jn dk = reverseLoop 0 (d.size - 1) d)
  case atStart => exact ⟨0, d.size - 1, (d.size : Int) - 1, d, 0, rfl, rfl, fun h => ⟨by omega, by omega⟩, fun h => by omega, by omega, rfl, (putRow_self _ w blk off d hH).symm, rfl⟩
  case round =>
    obtain ⟨i, jn, jz, dk, n, rfl, rfl, h1, h2, hk, hds, hwr, heq⟩ := hrel
    by_cases hlt : (i : Int) < jz
    · obtain ⟨rfl, hjn⟩ := h1 hlt
      have hij : i < jn := by omega
      have hHk : Holds (Value.int .u8) wr blk off dk := by rw [hwr]; exact holds_putRow _ _ blk off d dk (holds_ahead _ w n blk off d hH) hds
      obtain ⟨ci, fi⟩ := hHk i (by omega)
      obtain ⟨cj, fj⟩ := hHk jn (by omega)
      have A := Lib.hid hwr
      have HE := Lib.hid heq
      have HD := Lib.hid hds
      clear hwr hHk hH h1 h2 heq hds
      go_wp2_with fail
      go_region
      go_wp2
      go_roundg (jn - 1 - (i + 1))
      case measure => omega
      case rel =>
        have heq := HE.out
        have hds := HD.out
        rw [reverseLoop, if_pos hij] at heq
        exact ⟨i + 1, jn - 1, (jn : Int) - 1, swp dk i jn, n + 1, by simp, rfl, fun h => ⟨by omega, by omega⟩, fun h => by omega, Nat.le_refl _, by rw [size_swp]; exact hds,
          swap_world _ (by omega) (by omega) A.out (by first | rfl | simp [getElem!_pos, show jn < dk.size by omega]) (by first | rfl | simp [getElem!_pos, show i < dk.size by omega]), heq⟩
    · have hnot := h2 hlt
      have A := Lib.hid hwr
      have HE := Lib.hid heq
      clear hwr heq
      go_wp2
      go_end0
      have heq := HE.out
      refine ⟨rfl, n, ?_⟩
      rw [reverseLoop, if_neg hnot] at heq
      rw [← Lib.reverseLoop_reverse, ← heq, A.out]

/-- A row of the call's own, reversed. -/
theorem reverse_own (base : Nat) (v : Value) (n : Nat) (zs : List Int) (w : World) (h : w.ownsRow base 5 1 v n (zs.map (Value.int .u8))) (hn : 0 < n) (hsz : n ≤ 9223372036854775807) :
    Calls Try.prog 122 #[v] w fun e w' => e = .returned (.tuple #[]) ∧ w'.ownsRow base 5 1 v n (zs.reverse.map (Value.int .u8)) ∧ (∀ m w0, Below m w0 w → m ≤ base → Below m w0 w') ∧ (∀ g, v.ownBlock = some g → ∀ k, k ≠ g → w'.heap[k]? = w.heap[k]?) := by
  obtain ⟨g, cap, rfl, hb, hg, hle, hm, hl, hH⟩ := holds_of_ownsRow (enc := Value.int .u8) h (by rintro rfl; have := h.2; rcases this with ⟨_, h0⟩ | ⟨_, _, _, e, _⟩; omega; cases e)
  subst hl
  have := reverse_arr g 0 cap zs.toArray w hH (by simpa using hsz)
  simp only [List.size_toArray] at this
  refine this.mono ?_
  rintro e w' ⟨rfl, q, rfl⟩
  refine ⟨rfl, ?_, fun m w0 hB hm => below_putRow hB (by omega), fun g' hg' k hk => ?_⟩
  · have := ownsRow_putRow (q := q) h (ys := zs.reverse) (by simp) (Nat.le_refl _)
    rw [List.take_of_length_le (by simp)] at this
    rwa [List.reverse_toArray]
  · obtain rfl : g = g' := by simpa [Value.ownBlock] using hg'
    simp [putRow, mapBlock, Sort.ahead, Array.getElem?_modify, Ne.symm hk]
end Go.Proofs.Ytflpocnbmpdhiaa

/- A number's decimals, over any memory. Condition: the number fits its kind. -/
namespace Go.Proofs.Ytflpocnbmpdhiaa
open Go.RowKit Go.Shelf
attribute [local go_sem] Oper.semAt_some
set_option linter.unusedVariables false

theorem conv_own {W : World} {base : Nat} {g n cap : Nat} {zs : List Int} (h : W.ownsRow base 5 1 (.slice (some ⟨g, 0, none⟩) n cap) n (zs.map (Value.int .u8))) (hn : zs.length = n) :
    (convert 33 9 (.slice (some ⟨g, 0, none⟩) n cap)).run Try.prog W = .ok (.string (strOfNums zs)) W :=
  run_convert_bytes_arg (P := Try.prog) W 33 5 Try.underlying33 Try.underlying5 g 0 n cap zs hn (fun i hi => by
    rw [Nat.zero_add, h.cellAt i (by omega), List.getElem?_map, List.getElem?_eq_getElem (by omega), List.getD_eq_getElem?_getD, List.getElem?_eq_getElem (by omega)]; rfl) 9 Try.underlying9
theorem Try.info_byte : (Try.prog.info? 5).map (fun i => (i.zero, i.size, i.bytes)) = some (some (.int .u8 0), 1, 1) := by kernel_rfl

set_option maxRecDepth 100000 in
set_option maxHeartbeats 4000000 in
theorem decimal_any (n : Int) (hn : Nu.I n) (w : World) :
    Calls Try.prog 99 #[.int .i64 n] w fun e w' => e = .returned (.string (strOfNums (Nu.decV n))) ∧ Below w.heap.size w w' := by
  have hlen := Nu.dig_len64 (b := 10) (n := n.natAbs) (by omega) (by unfold Nu.I at hn; omega)
  have hna : (n.natAbs : Int) ≤ 18446744073709551615 := by unfold Nu.I at hn; omega
  have hdl := Lib.hid (Nu.dig_lt (b := 10) (by omega) n.natAbs)
  have hne0 := Lib.hid (Nu.dig_ne 10 n.natAbs)
  obtain ⟨i0, hi, hz0, hz1, hz2⟩ := info_parts Try.info_byte
  refine calls_of_marks Try.func99 rfl ?_
  simp only [Try.ntmps99, List.size_toArray, List.length_cons, List.length_nil, Nat.reduceAdd, Nat.reduceSub, Array.replicate_succ, Array.replicate_zero, List.push_toArray, List.append_toArray, List.nil_append, List.cons_append]
  go_wp2_with (first | (go_at_call 121; refine (size_any n hn _).mono ?_; rintro e w1 ⟨rfl, rfl⟩) | (go_at_call 120; refine (digits_made _ _ _).mono ?_; rintro e w2 ⟨nb, bb, rfl, hne, l1, l2, cn, cb, fn, hb⟩))
  have hv0 : Boxed w2 w.heap.size 33 (.slice none 0 0) := (hb.block _ (by simp)).trans (Boxed.new w _ _)
  have hbel : Below w.heap.size w w2 := ((Below.refl _ w).alloc (Nat.le_refl _) _).trans (hb.mono (by simp))
  have ln : nb < w2.heap.size := block_lt_of_cell cn
  have lb : bb < w2.heap.size := block_lt_of_cell cb
  simp only [World.size_alloc] at l1 l2
  have hws := hbel.size
  have hz : ¬ ((w.heap.size = nb ∨ w.heap.size = bb) ∨ w.heap.size = w2.heap.size ∨ w.heap.size = w2.heap.size + 1) := by omega
  have hzb : ∀ k, w2.heap.size + 2 ≤ k → ¬ ((k = nb ∨ k = bb) ∨ k = w2.heap.size ∨ k = w2.heap.size + 1) := by intro k hk; omega
  refine range_wp (gf := 136) (lb := #[.pointer (some ⟨nb, 0, none⟩), .pointer (some ⟨bb, 0, none⟩)]) rfl (enters_of Try.func136 (by kernel_rfl) rfl)
    (digits_gives n.natAbs 10 (by omega) hna (by omega) (by omega) nb bb hne w2 2 (by omega) cn cb fn) (by rintro k (rfl | rfl) <;> assumption) (fun _ => rfl)
    (fun pre W => ∃ v, Boxed W w.heap.size 33 v ∧ W.ownsRow (w2.heap.size + 2) 5 1 v pre.length ((pre.map (48 + ·)).map (Value.int .u8)) ∧ Below w.heap.size w W)
    (fun _ _ _ => False) ?hI (fun _ _ _ _ hh _ => hh) ⟨_, hv0, World.ownsRow_nil _ _ _ _, hbel⟩ ?_ ?assign ?body ?done ?stop
  case hI =>
    rintro p A B ⟨v, h1, h2, h4⟩ hs
    exact ⟨v, boxed_sep h1 hs hz, ownsRow_sep h2 hs hzb, h4.trans (hs.below h4.size (by intro k hk; omega))⟩
  case assign =>
    intro l x W K hK
    gi_wp2
    exact hK
  case body =>
    rintro l pre x rest W hx hlt ⟨v, hv, hrow, hB⟩
    have hp : (pre.length : Int) ≤ 65 := by have := congrArg List.length hx; simp at this; omega
    obtain ⟨x0, x1⟩ := hdl.out x (by rw [hx]; simp)
    clear hx cn cb fn hb hv0
    have hW := hB.size
    have hvc := hv.cell
    gi_wp2_with (gi_at_builtin; refine wpListIn_append_own _ rfl _ _ 33 rfl (w2.heap.size + 2) 5 i0 (.int .u8 0) 1 1 Try.underlying33 hi hz0 hz1 hz2 rfl (by decide) _ _ _ rfl (hrow.alloc _) ⟨W.heap.size, 0, none⟩ 1 1 [.int .u8 (48 + x)] rfl rfl (cell_one_new _ _ _) (by simp [Value.oneCell']) (by unfold maxLen; omega) (by omega) (by simp; omega) ?_; intro v' w1 hown' hgrow _; obtain ⟨g', cap', rfl⟩ := ownsRow_succ hown'; obtain ⟨hv1, hv2, hr2, hh2, hb2⟩ := pushed hv (by decide) hrow hown' hgrow; have hc1 := hv1.cell; have hf1 := hv1.frozen)
    exact ⟨hh2 _ hz hzb, _, hv2, by simpa using hr2, hB.trans (hb2 _ (Nat.le_refl _) (by omega) hW)⟩
  case done =>
    rintro W ⟨v, hv, hrow, hB⟩ hK
    obtain ⟨m, hm⟩ : ∃ m, (Nu.dig 10 n.natAbs).length = m + 1 := by
      have := hne0.out
      cases hd : Nu.dig 10 n.natAbs with
      | nil => exact absurd hd this
      | cons a b => exact ⟨b.length, rfl⟩
    have hW := hB.size
    have hm65 : (m : Int) ≤ 64 := by omega
    have hlW : w2.heap.size < W.heap.size := (Array.getElem?_eq_some_iff.1 hK).1
    have HM := Lib.hid hm
    have HN := hn
    rw [hm] at hrow
    obtain ⟨g, cap, rfl⟩ := ownsRow_succ hrow
    have hvc := hv.cell
    have hgB : w2.heap.size + 2 ≤ g := (hrow.lt g rfl).1
    clear hm cn cb fn hb hv0 hlen hn
    by_cases hneg : n < 0
    · have HB : Hid (Nu.backV n = (Nu.dig 10 n.natAbs).map (48 + ·) ++ [45]) := by show _ = _; unfold Nu.backV; rw [if_pos hneg]
      go_wp2_with (first
        | (at_builtin; refine wpList_append_own _ rfl _ _ 33 rfl (w2.heap.size + 2) 5 i0 (.int .u8 0) 1 1 Try.underlying33 hi hz0 hz1 hz2 rfl (by decide) _ _ _ rfl (hrow.alloc _) ⟨W.heap.size, 0, none⟩ 1 1 [.int .u8 45] rfl rfl (cell_one_new _ _ _) (by simp [Value.oneCell']) (by unfold maxLen; omega) (by omega) (by simp; omega) ?_; intro v' w1 hown' hgrow _; obtain ⟨g', cap', rfl⟩ := ownsRow_succ hown'; obtain ⟨hv1, hv2, hr2, hh2, hb2⟩ := pushed hv (by decide) hrow hown' hgrow; have hc1 := hv1.cell; have hf1 := hv1.frozen; have hc2 := hv2.cell; have HR := Lib.hid (show World.ownsRow _ (w2.heap.size + 2) 5 1 _ (m + 1 + 1) (((Nu.dig 10 n.natAbs).map (48 + ·) ++ [45]).map (Value.int .u8)) by rw [List.map_append]; exact hr2); have hB2 := hB.trans (hb2 _ (Nat.le_refl _) (by omega) hW); have HK2 := Lib.hid (((hh2 (fun k => k = w2.heap.size) (by omega) (by intro k hk; omega)).block _ hlW rfl).trans hK); have hg' := (hown'.lt g' rfl).1; have HV2 := Lib.hid hv2; clear hr2 hh2 hb2 hv2)
        | (go_at_call 122; refine (reverse_own _ _ (m + 1 + 1) _ _ HR.out (by omega) (by omega)).mono ?_; rintro e w3 ⟨rfl, hr3, hB3, hk3⟩; have hv3 : Boxed w3 w.heap.size 33 (.slice (some ⟨g', 0, none⟩) (m + 1 + 1) cap') := (hk3 g' rfl _ (by omega)).trans HV2.out; have hv3c := hv3.cell; have hcv := conv_own hr3 (by simp [HM.out]); have HK3 := Lib.hid ((hk3 g' rfl w2.heap.size (by omega)).trans HK2.out); have hB4 := hB3 _ _ hB2 (by omega); clear hk3 hB3))
      refine ret_mark HK3.out (results_tmp rfl _ _ _) ⟨?_, Below.putObj hB4 (by omega) _⟩
      unfold Nu.decV
      rw [HB.out, List.reverse_append]
      rfl
    · have HB : Hid (Nu.backV n = (Nu.dig 10 n.natAbs).map (48 + ·)) := by show _ = _; unfold Nu.backV; rw [if_neg hneg, List.append_nil]
      have hcont : ∀ W', W = W' → Calls Try.prog 122 #[.slice (some ⟨g, 0, none⟩) (m + 1) cap] W' fun e w' => e = .returned (.tuple #[]) ∧ w'.ownsRow (w2.heap.size + 2) 5 1 (.slice (some ⟨g, 0, none⟩) (m + 1) cap) (m + 1) (((Nu.dig 10 n.natAbs).map (48 + ·)).reverse.map (Value.int .u8)) ∧ Below w.heap.size w w' ∧ (∀ k, k ≠ g → w'.heap[k]? = W.heap[k]?) := by
        rintro W' rfl
        refine (reverse_own _ _ (m + 1) _ W hrow (by omega) (by omega)).mono ?_
        rintro e w' ⟨rfl, h1, h2, h3⟩
        exact ⟨rfl, h1, h2 _ _ hB (by omega), h3 g rfl⟩
      have HC := Lib.hid hcont
      clear hcont
      go_wp2_with (go_at_call 122; refine (HC.out _ rfl).mono ?_; rintro e w3 ⟨rfl, hr3, hB3, hk3⟩; have hv3 : Boxed w3 w.heap.size 33 (.slice (some ⟨g, 0, none⟩) (m + 1) cap) := (hk3 _ (by omega)).trans hv; have hv3c := hv3.cell; have hcv := conv_own hr3 (by simp [HM.out]); have HK3 := Lib.hid ((hk3 w2.heap.size (by omega)).trans hK); clear hk3)
      refine ret_mark HK3.out (results_tmp rfl _ _ _) ⟨?_, Below.putObj hB3 (by omega) _⟩
      unfold Nu.decV
      rw [HB.out]
      rfl
  case stop =>
    rintro c pre W _ hh _
    exact hh.elim
end Go.Proofs.Ytflpocnbmpdhiaa

/- The samples of pixels told as texts, with a text between, by the code: over any memory. Condition: the pixels fit their head, and are not too many. -/
namespace Go.Proofs.Ytflpocnbmpdhiaa
open Go.RowKit Go.Shelf
set_option linter.unusedVariables false

theorem wpList_app1 {P : Program} {w : World} {ops : Array Oper} {rest : List Oper} {o : Oper} {a : Act} {Q : Exit → Act → World → Prop} (hgd : o.guard = none) (s x : Operand) (t : TypeId)
    (ho : o.op = .call { callee := .builtin .append, args := #[s, x], argTypes := #[t, t] })
    (base : Nat) (e : TypeId) (i : TypeInfo) (z : Value) (bytes : Nat) (ht : P.underlying t = some (.slice e)) (hi : P.info? e = some i) (hz : i.zero = some z) (hzc : z.cells.size = 1)
    (hsize : i.size = 1) (hby : i.bytes = bytes) (v : Value) (n : Nat) (xs : List Value) (hs : a.eval s = v) (hown : w.ownsRow base e 1 v n xs)
    (g : Nat) (y : Value) (hyc : y.oneCell' = true) (hx : a.eval x = .slice (some ⟨g, 0, none⟩) 1 1) (hy : w.cell? ⟨g, 0, none⟩ = some y) (h63 : n + 1 ≤ maxLen) (hbytes : (n + 1) * bytes ≤ 140737488355328) (hbase : base ≤ w.heap.size)
    (h : ∀ v' w', w'.ownsRow base e 1 v' (n + 1) (xs ++ [y]) → w.grownBy w' v.ownBlock → (v'.ownBlock = v.ownBlock ∨ v'.ownBlock = some w.heap.size) → wpList P ops Q rest (a.put o.dst v') w') : wpList P ops Q (o :: rest) a w := by
  refine wpList_plain hgd fun K hK => ?_
  obtain ⟨v', w', hr, h2, h3, _, h4⟩ := run_append_own_at (P := P) w base t o.type e i z 1 bytes ht hi hz hsize hby hzc (by decide) v n xs hown ⟨g, 0, none⟩ 1 1 [y] (by simp) (fun j u hu => by
      cases j with
      | zero => simp at hu; subst hu; simpa [Addr.add] using hy
      | succ j => simp at hu) (fun u hu => by rw [List.mem_singleton.1 hu]; exact hyc) h63 hbytes hbase
  unfold Oper.wp execOp
  simp only [ho, resolve, invoke, builtin, Sem.run_bind, Sem.run_pure, Result.andThen_ok, List.map_toArray, List.map_cons, List.map_nil, hs, hx, hr]
  exact hK _ _ (h v' w' h2 h3 h4)
/-- numbers of a row that lies apart from another one -/
def RowS (W : World) (v : Value) (g m : Nat) (zs : List Int) : Prop := SlK .i64 W (some ⟨g, 0, none⟩) m zs ∧ g < W.heap.size ∧ v.ownBlock ≠ some g
theorem RowS.later {W W' : World} {v : Value} {g m : Nat} {zs : List Int} (h : RowS W v g m zs) (hb : Below W.heap.size W W') : RowS W' v g m zs := ⟨h.1.below hb, Nat.lt_of_lt_of_le h.2.1 hb.size, h.2.2⟩
theorem RowS.grown {W w' : World} {v v' : Value} {g m : Nat} {zs : List Int} (h : RowS W v g m zs) (hg : W.grownBy w' v.ownBlock) (hat : v'.ownBlock = v.ownBlock ∨ v'.ownBlock = some W.heap.size) : RowS w' v' g m zs := by
  obtain ⟨⟨h1, h2⟩, h3, h4⟩ := h
  refine ⟨⟨h1, ?_⟩, ?_, ?_⟩
  · rcases h2 with h2 | ⟨b, o, e, hc⟩
    · exact .inl h2
    · refine .inr ⟨b, o, e, fun i hi => ?_⟩
      cases e
      rw [hg.cell_far ⟨g, 0 + i, none⟩ h3 (fun e => h4 e.symm)]
      exact hc i hi
  · exact Nat.lt_of_lt_of_le h3 hg.size
  · intro e
    rcases hat with k | k
    · exact h4 (k.symm.trans e)
    · rw [k] at e; injection e with e; omega
def strD (zs : List Int) : List Value := zs.map fun z => .string (strOfNums (Nu.decV z))
theorem Try.info_str : (Try.prog.info? 9).map (fun i => (i.zero, i.size, i.bytes)) = some (some (.string ⟨#[]⟩), 1, 16) := by kernel_rfl
namespace Pl
def joinI (sep : List Int) : List (List Int) → List Int
  | [] => []
  | [x] => x
  | x :: y :: r => x ++ sep ++ joinI sep (y :: r)
theorem joinI_len {sep : List Int} {b : Nat} (hs : sep.length ≤ 1) : ∀ {xs : List (List Int)}, (∀ x ∈ xs, x.length ≤ b) → (joinI sep xs).length ≤ (b + 1) * xs.length
  | [], _ => by simp [joinI]
  | [x], h => by
    have := h x (List.mem_cons_self ..)
    simp only [joinI, List.length_cons, List.length_nil]; omega
  | x :: y :: r, h => by
    have h1 := h x (List.mem_cons_self ..)
    have h2 := joinI_len hs (xs := y :: r) fun z hz => h z (List.mem_cons_of_mem _ hz)
    simp only [joinI, List.length_append]
    rw [show (x :: y :: r).length = (y :: r).length + 1 from rfl, Nat.mul_add]
    omega
theorem join_str (sep : List Int) : ∀ xs : List (List Int), (Lib.join ((xs.map strOfNums).map (·.data.toList)) (strOfNums sep).data.toList) = (joinI sep xs).map fun n => UInt8.ofNat n.toNat
  | [] => rfl
  | [x] => by simp [Lib.join, List.intercalate, joinI, strOfNums]
  | x :: y :: r => by
    have ih := join_str sep (y :: r)
    simp only [Lib.join, List.intercalate, List.map_cons] at ih ⊢
    simp only [List.intersperse, List.flatten_cons, joinI, List.map_append] at ih ⊢
    rw [ih]
    simp [strOfNums]
end Pl
theorem line_join {w : World} {base : Nat} {v : Value} {k : Nat} {zs : List Int} (sep : List Int) (h : w.ownsRow base 9 1 v k (strD zs)) (hk : zs.length = k) (hs : sep.length ≤ 1) (hI : ∀ z ∈ zs, Nu.I z) (hkb : k ≤ 1000) :
    Calls Try.prog 100 #[v, .string (strOfNums sep)] w fun e w' => e = .returned (.string (strOfNums (Pl.joinI sep (zs.map Nu.decV)))) ∧ Below w.heap.size w w' := by
  have hl := Pl.joinI_len (b := 66) hs (xs := zs.map Nu.decV) fun x hx => by
    obtain ⟨z, hz, rfl⟩ := List.mem_map.1 hx
    exact Nu.decV_len (hI z hz)
  have H := h
  rcases h.2 with ⟨rfl, e⟩ | ⟨g, cap, cur, rfl, hb, hg, hle, hm, hsz, htk⟩
  · subst e
    have : zs = [] := List.length_eq_zero_iff.1 hk
    subst this
    refine (sh_join_none none 0 (strOfNums sep) w).mono ?_
    rintro e w' ⟨rfl, rfl⟩
    exact ⟨rfl, .refl _ _⟩
  · have hj := sh_join g 0 cap (zs.map fun z => strOfNums (Nu.decV z)) (strOfNums sep) w (fun j x hx => by
      have hjk : j < k := by
        rcases Nat.lt_or_ge j k with h | h
        · exact h
        · rw [List.getElem?_eq_none (by simp; omega)] at hx; cases hx
      rw [Nat.zero_add, H.cellAt j (by omega)]
      unfold strD
      rw [List.getElem?_map] at hx ⊢
      cases hz : zs[j]? with
      | none => rw [hz] at hx; cases hx
      | some z => rw [hz] at hx; simp at hx ⊢; rw [← hx]) (H.lt g rfl).2 (by simp; omega) (by simp; omega) (by
        rw [show (zs.map fun z => strOfNums (Nu.decV z)) = (zs.map Nu.decV).map strOfNums by simp]
        rw [Pl.join_str, List.length_map]
        rw [List.length_map] at hl
        omega)
    rw [show (zs.map fun z => strOfNums (Nu.decV z)) = (zs.map Nu.decV).map strOfNums by simp, Pl.join_str] at hj
    rw [List.length_map, List.length_map, hk] at hj
    exact hj
end Go.Proofs.Ytflpocnbmpdhiaa

/- A line of a raster of digits, by the code: over any memory. Condition: the pixels fit their head, and are not too many. -/
namespace Go.Proofs.Ytflpocnbmpdhiaa
open Go.RowKit
set_option linter.unusedVariables false
theorem strD_app (a b : List Int) : strD (a ++ b) = strD a ++ strD b := by simp [strD]
theorem smps_len {G : Hd.H} {l : List Int} (hl : Pl.Fits G l) : ((l.flatMap Pq.Px.smp).length) ≤ 3 * l.length := by
  induction l with
  | nil => simp
  | cons p l ih =>
    have h1 := (Pl.smp_in (Pq.goodU (hl p (List.mem_cons_self ..)))).1
    have h2 := ih fun q hq => hl q (List.mem_cons_of_mem _ hq)
    rw [List.flatMap_cons, List.length_append, List.length_cons]; omega
theorem smps_I {G : Hd.H} {l : List Int} (hl : Pl.Fits G l) : ∀ z ∈ l.flatMap Pq.Px.smp, Nu.I z := by
  intro z hz
  obtain ⟨p, hp, hz⟩ := List.mem_flatMap.1 hz
  exact Pl.smp_I (Pq.goodU (hl p hp)) z hz
set_option maxRecDepth 100000 in
set_option maxHeartbeats 8000000 in
theorem plLine_any (a : Option Addr) (n cap : Nat) (l : List Int) (G : Hd.H) (hl : Pl.Fits G l) (hn : n ≤ 100) (sep : List Int) (hs1 : sep.length ≤ 1) (w : World) (hs : SlK .u64 w a n l) :
    Calls Try.prog 75 #[.slice a n cap, .string (strOfNums sep)] w fun e w' => e = .returned (.string (strOfNums (Pl.joinI sep ((l.flatMap Pq.Px.smp).map Nu.decV) ++ [10]))) ∧ Below w.heap.size w w' := by
  have HS := Lib.hid hs
  have HFT := Lib.hid hl
  have HL := Lib.hid hs.1
  have HS1 := Lib.hid hs1
  obtain ⟨SP, hSP⟩ : ∃ SP, strOfNums sep = SP := ⟨_, rfl⟩
  have HSP := Lib.hid hSP
  rw [hSP]
  obtain ⟨i0, hi, hz0, hz1, hz2⟩ : ∃ i, Try.prog.info? 9 = some i ∧ i.zero = some (.string ⟨#[]⟩) ∧ i.size = 1 ∧ i.bytes = 16 := (by have h := Try.info_str; cases hh : Try.prog.info? 9 with | none => rw [hh] at h; cases h | some i => rw [hh] at h; simp at h; exact ⟨i, rfl, h.1, h.2.1, h.2.2⟩)
  have hlen0 : ¬ (n : Int) < 0 := by omega
  obtain ⟨R, hR⟩ : ∃ R, strOfNums (Pl.joinI sep ((l.flatMap Pq.Px.smp).map Nu.decV) ++ [10]) = R := ⟨_, rfl⟩
  rw [hR]
  have HRR := Lib.hid hR
  clear hR
  clear hs hl hs1 hSP
  go_enter Try.func75, Try.ntmps75
  go_wp2_with fail
  go_loopw [5, 12] (fun u5 u12 wr => ∃ (i : Nat) (v : Value), i ≤ n ∧ u12 = .int .i64 i ∧ v = u5 ∧ wr.ownsRow w.heap.size 9 1 v ((l.take i).flatMap Pq.Px.smp).length (strD ((l.take i).flatMap Pq.Px.smp)) ∧ Below w.heap.size w wr) (fun _ u12 _ => n - (intOf u12).toNat)
  case atStart => exact ⟨0, _, Nat.zero_le _, rfl, rfl, World.ownsRow_nil _ _ _ _, .refl _ _⟩
  case round =>
    obtain ⟨i, v, hin, rfl, rfl, hrow, hB⟩ := hrel
    have HB := Lib.hid hB
    have HRW := Lib.hid hrow
    clear hB hrow
    by_cases hlt : i < n
    · have hil : i < l.length := by rw [HL.out]; exact hlt
      obtain ⟨p, hp⟩ : ∃ p, l.getD i 0 = p := ⟨_, rfl⟩
      have hgp := HFT.out _ (getD_mem hil)
      rw [hp] at hgp
      have HSC := Lib.hid (Pl.smps_succ l i hil)
      rw [hp] at HSC
      have HUP := Lib.hid (fun W => Pq.unpack_any p (Pq.goodU hgp) W)
      have HI := Lib.hid (Pl.smp_I (Pq.goodU hgp))
      have hne : Pq.Px.smp p ≠ [] := by
        rcases hgp with ⟨-, x, y, z, h3, -⟩ | ⟨-, x, h1, -⟩
        · rw [Pq.Px.smp3 h3]; simp
        · rw [Pq.Px.smp1 h1]; simp
      have hm3 := (Pl.smp_in (Pq.goodU hgp)).1
      have hZl := smps_len (G := G) (l := l.take i) fun q hq => HFT.out q (List.mem_of_mem_take hq)
      rw [List.length_take] at hZl
      obtain ⟨Z, hZ⟩ : ∃ Z, (l.take i).flatMap Pq.Px.smp = Z := ⟨_, rfl⟩
      obtain ⟨zs, hzs⟩ : ∃ zs, Pq.Px.smp p = zs := ⟨_, rfl⟩
      rw [hzs] at HUP HI hne hm3 HSC
      rw [hZ] at HRW HSC hZl
      obtain ⟨m, hm⟩ : ∃ m, zs.length = m := ⟨_, rfl⟩
      obtain ⟨c0, hc0⟩ : ∃ c, Z.length = c := ⟨_, rfl⟩
      rw [hc0] at HRW hZl
      rw [hm] at hm3
      have HML := Lib.hid hm
      have HC0 := Lib.hid hc0
      have hc300 : c0 ≤ 300 := by omega
      obtain ⟨blk, off, ha, hcell⟩ : ∃ blk off, a = some ⟨blk, off, none⟩ ∧ wr.cell? ⟨blk, off + i, none⟩ = some (.int .u64 p) := by
        rcases HS.out.2 with h | ⟨blk, off, rfl, hc⟩
        · omega
        · exact ⟨blk, off, rfl, cell_later HB.out (by rw [hc i hlt, hp])⟩
      subst ha
      clear hp hgp hZ hzs hm hc0 hil hZl
      go_wp2_with fail
      refine (HUP.out _).mono ?_
      rintro e w2 ⟨ad, cp, rfl, hO, hb2⟩
      have hsl := hO.sl
      rcases hO with h | ⟨g, rfl, g1, g2, g3⟩
      · exact absurd h hne
      have hRS : RowS w2 v g m zs := ⟨by have h := hsl; rw [HML.out] at h; exact ⟨h.1, h.2⟩, g2, fun e => by have := (HRW.out.lt g e).2; omega⟩
      rw [HML.out]
      have HRS := Lib.hid hRS
      have HR2 := Lib.hid (below_row HRW.out hb2)
      have HB2 := Lib.hid (HB.out.trans (hb2.mono HB.out.size))
      clear hsl g1 g2 g3 hRS hb2 hcell hne HRW
      have hm0 : ¬ (m : Int) < 0 := by omega
      go_wp2_with fail
      go_loopw [5, 19] (fun u5 u19 wi => ∃ (j : Nat) (u : Value), j ≤ m ∧ u19 = .int .i64 j ∧ u = u5 ∧ wi.ownsRow w.heap.size 9 1 u (c0 + j) (strD (Z ++ zs.take j)) ∧ RowS wi u g m zs ∧ Below w.heap.size w wi) (fun _ u19 _ => m - (intOf u19).toNat)
      case atStart => exact ⟨0, _, Nat.zero_le _, rfl, rfl, by simpa using HR2.out, HRS.out, HB2.out⟩
      case round =>
        obtain ⟨j, u, hjm, rfl, rfl, hru, hrs, hC⟩ := hrel
        have HRU := Lib.hid hru
        have HRZ := Lib.hid hrs
        have HC := Lib.hid hC
        clear hru hrs hC
        by_cases hjt : j < m
        · have hjl : j < zs.length := by rw [HML.out]; exact hjt
          obtain ⟨z, hz⟩ : ∃ z, zs.getD j 0 = z := ⟨_, rfl⟩
          have hzI : Nu.I z := by rw [← hz]; exact HI.out _ (getD_mem hjl)
          have HTJ := Lib.hid (Pl.take_getD zs j hjl)
          rw [hz] at HTJ
          have HDC := Lib.hid (fun W => decimal_any z hzI W)
          obtain ⟨D, hD⟩ : ∃ D, strOfNums (Nu.decV z) = D := ⟨_, rfl⟩
          rw [hD] at HDC
          have HDE := Lib.hid hD
          have hcell : wr.cell? ⟨g, 0 + j, none⟩ = some (.int .i64 z) := by
            rcases HRZ.out.1.2 with h | ⟨b, o, e, hc⟩
            · omega
            · cases e; rw [hc j hjt, hz]
          rw [Nat.zero_add] at hcell
          have HSX : Hid (strD (Z ++ zs.take j) ++ [.string D] = strD (Z ++ zs.take (j + 1))) := Lib.hid (by rw [HTJ.out, ← List.append_assoc, strD_app (Z ++ zs.take j), ← HDE.out]; rfl)
          clear hz hzI hjl hD
          go_wp2_with (first
            | (go_at_call 99; refine (HDC.out _).mono ?_; rintro e w3 ⟨rfl, hb3⟩; have HR3 := Lib.hid (below_row HRU.out hb3); have HS3 := Lib.hid (HRZ.out.later hb3); have HC3 := Lib.hid (HC.out.trans (hb3.mono HC.out.size)); clear hb3 hcell)
            | (at_builtin; refine wpList_app1 rfl _ _ 34 rfl w.heap.size 9 i0 (.string ⟨#[]⟩) 16 Try.underlying34 hi hz0 rfl hz1 hz2 u (c0 + j) (strD (Z ++ zs.take j)) rfl (HR3.out.alloc _) w3.heap.size (.string D) rfl rfl (by simp [go_sem]) (by unfold maxLen; omega) (by omega) (by have := HC3.out.size; simp; omega) ?_; intro v2 w5 hown hgrow hat; have HR5 := Lib.hid hown; have HS5 := Lib.hid ((HS3.out.later (box1' _ _)).grown hgrow hat); have HC5 := Lib.hid ((HC3.out.alloc HC3.out.size _).grown hgrow (by have := HC3.out.size; simp; omega) (fun y ey => (HR3.out.lt y ey).1)); clear hown hgrow hat))
          go_roundw
          case rel => exact ⟨j + 1, v2, by omega, by go_num, rfl, by rw [← HSX.out]; exact HR5.out, HS5.out, HC5.out⟩
          case measure => simp [intOf]; omega
        · have hje : j = m := by omega
          subst hje
          have HTT : Hid (zs.take j = zs) := Lib.hid (List.take_of_length_le (by rw [HML.out]; exact Nat.le_refl _))
          go_wp2_with fail
          go_roundw
          case rel => exact ⟨i + 1, u, by omega, by go_num, rfl, by rw [HSC.out, List.length_append, HC0.out, HML.out]; have h := HRU.out; rw [HTT.out] at h; exact h, HC.out⟩
          case measure => simp [intOf]; omega
    · have hie : i = n := by omega
      subst hie
      have HTT : Hid (l.take i = l) := Lib.hid (List.take_of_length_le (by rw [HL.out]; exact Nat.le_refl _))
      have hrow := HRW.out
      rw [HTT.out] at hrow
      have hZl := smps_len HFT.out
      rw [HL.out] at hZl
      have HJ := Lib.hid (line_join (k := (l.flatMap Pq.Px.smp).length) sep hrow rfl HS1.out (smps_I HFT.out) (by omega))
      rw [HSP.out] at HJ
      have hjl := Pl.joinI_len (b := 66) HS1.out (xs := (l.flatMap Pq.Px.smp).map Nu.decV) fun x hx => by
        obtain ⟨z, hz, rfl⟩ := List.mem_map.1 hx
        exact Nu.decV_len (smps_I HFT.out z hz)
      rw [List.length_map] at hjl
      obtain ⟨T, hT⟩ : ∃ T, strOfNums (Pl.joinI sep ((l.flatMap Pq.Px.smp).map Nu.decV)) = T := ⟨_, rfl⟩
      have hTs : T.size ≤ 67 * (3 * i) := by rw [← hT, strOfNums_size]; omega
      rw [hT] at HJ
      have HTE : Hid (T ++ ⟨#[10]⟩ = R) := Lib.hid (by rw [← HRR.out, strOfNums_append, hT]; rfl)
      have L1 : ¬ 9223372036854775807 < T.size + 1 := by omega
      clear hrow hZl hjl hT
      go_wp2_with fail
      refine HJ.out.mono ?_
      rintro e w7 ⟨rfl, hb7⟩
      have HB7 := Lib.hid (HB.out.trans (hb7.mono HB.out.size))
      clear hb7
      go_wp2_with fail
      go_ret
      exact ⟨by first | (rw [HTE.out]; done) | (rw [← HTE.out]; rfl) | (rw [← HTE.out]), HB7.out⟩
end Go.Proofs.Ytflpocnbmpdhiaa

/- What Fits of pix comes to, over any memory: is a number a pixel of a format? Condition: numbers fit their kinds. -/
namespace Go.Proofs.Ytflpocnbmpdhiaa
open Go.RowKit
set_option linter.unusedVariables false
namespace Pq
theorem fits3_nof (p c m a b d : Int) (h : Px.Is3 p a b d) (k : ((3 : Int) == c) = true) (hf : Px.formatV c m = false) (w : World) :
    Calls Try.prog 93 #[.int .u64 p, .agg #[.int .i64 c, .int .i64 m]] w fun e w' => e = .returned (.bool false) ∧ Below w.heap.size w w' := by
  go_enter Try.func93, Try.ntmps93
  go_wp2_with (go_at_call 110; refine (split3 p a b d h _).mono ?_; rintro e w1 ⟨rfl, hb1⟩)
  have d0 : w1.cell? ⟨w.heap.size, 0, none⟩ = some (.int .i64 c) := cell_later hb1 (by simp [go_sem])
  have d1 : w1.cell? ⟨w.heap.size, 1, none⟩ = some (.int .i64 m) := cell_later hb1 (by simp [go_sem])
  have hz : w.heap.size < w1.heap.size := by have := hb1.size; simp at this; omega
  first | go_region_with (go_at_call 111; refine (format_any _ _ _).mono ?_; rintro e w2 ⟨rfl, hb2⟩) | fail
  all_goals go_wp2
  all_goals go_ret
  all_goals exact ⟨rfl, ((box_below w _ _ hb1).alloc (Nat.le_of_lt hz) _).drew.trans (hb2.mono (B' := w.heap.size) (by simp; omega))⟩
theorem fits1_nof (p c m a : Int) (h : Px.Is1 p a) (k : ((1 : Int) == c) = true) (hf : Px.formatV c m = false) (w : World) :
    Calls Try.prog 93 #[.int .u64 p, .agg #[.int .i64 c, .int .i64 m]] w fun e w' => e = .returned (.bool false) ∧ Below w.heap.size w w' := by
  go_enter Try.func93, Try.ntmps93
  go_wp2_with (go_at_call 110; refine (split1 p a h _).mono ?_; rintro e w1 ⟨rfl, hb1⟩)
  have d0 : w1.cell? ⟨w.heap.size, 0, none⟩ = some (.int .i64 c) := cell_later hb1 (by simp [go_sem])
  have d1 : w1.cell? ⟨w.heap.size, 1, none⟩ = some (.int .i64 m) := cell_later hb1 (by simp [go_sem])
  have hz : w.heap.size < w1.heap.size := by have := hb1.size; simp at this; omega
  first | go_region_with (go_at_call 111; refine (format_any _ _ _).mono ?_; rintro e w2 ⟨rfl, hb2⟩) | fail
  all_goals go_wp2
  all_goals go_ret
  all_goals exact ⟨rfl, ((box_below w _ _ hb1).alloc (Nat.le_of_lt hz) _).drew.trans (hb2.mono (B' := w.heap.size) (by simp; omega))⟩
theorem fits0_nof (p c m : Int) (hU : Px.U p) (h : Px.Is0 p) (k : ((0 : Int) == c) = true) (hf : Px.formatV c m = false) (w : World) :
    Calls Try.prog 93 #[.int .u64 p, .agg #[.int .i64 c, .int .i64 m]] w fun e w' => e = .returned (.bool false) ∧ Below w.heap.size w w' := by
  go_enter Try.func93, Try.ntmps93
  go_wp2_with (go_at_call 110; refine (split0 p hU h _).mono ?_; rintro e w1 ⟨rfl, hb1⟩)
  have d0 : w1.cell? ⟨w.heap.size, 0, none⟩ = some (.int .i64 c) := cell_later hb1 (by simp [go_sem])
  have d1 : w1.cell? ⟨w.heap.size, 1, none⟩ = some (.int .i64 m) := cell_later hb1 (by simp [go_sem])
  have hz : w.heap.size < w1.heap.size := by have := hb1.size; simp at this; omega
  first | go_region_with (go_at_call 111; refine (format_any _ _ _).mono ?_; rintro e w2 ⟨rfl, hb2⟩) | fail
  all_goals go_wp2
  all_goals go_ret
  all_goals exact ⟨rfl, ((box_below w _ _ hb1).alloc (Nat.le_of_lt hz) _).drew.trans (hb2.mono (B' := w.heap.size) (by simp; omega))⟩
theorem fits3_yes (p c m a b d M : Int) (hM : Hid (max (max a b) d = M)) (h : Px.Is3 p a b d) (k : ((3 : Int) == c) = true) (hf : Px.formatV c m = true) (w : World) :
    Calls Try.prog 93 #[.int .u64 p, .agg #[.int .i64 c, .int .i64 m]] w fun e w' => e = .returned (.bool (decide (M ≤ m))) ∧ Below w.heap.size w w' := by
  go_enter Try.func93, Try.ntmps93
  go_wp2_with (go_at_call 110; refine (split3 p a b d h _).mono ?_; rintro e w1 ⟨rfl, hb1⟩)
  have d0 : w1.cell? ⟨w.heap.size, 0, none⟩ = some (.int .i64 c) := cell_later hb1 (by simp [go_sem])
  have d1 : w1.cell? ⟨w.heap.size, 1, none⟩ = some (.int .i64 m) := cell_later hb1 (by simp [go_sem])
  have hz : w.heap.size < w1.heap.size := by have := hb1.size; simp at this; omega
  go_region_held3 (fun w' => w'.cell? ⟨w.heap.size, 0, none⟩ = some (.int .i64 c) ∧ w'.cell? ⟨w.heap.size, 1, none⟩ = some (.int .i64 m)) (first | go_keep | (go_split_ands; refine ⟨cell_later hb2 ?_, cell_later hb2 ?_⟩ <;> assumption))
    (first | (go_at_call 111; refine (format_any _ _ _).mono ?_; rintro e w2 ⟨rfl, hb2⟩)
           | (go_at_call 112; refine (max3M _ _ _ a b d M hM _ ?_ ?_ ?_).mono ?_; (exact cell_later hb2 (by simp [go_sem])); (exact cell_later hb2 (by simp [go_sem])); (exact cell_later hb2 (by simp [go_sem])); rintro e w3 ⟨rfl, rfl⟩))
  go_wp2
  go_ret
  exact ⟨rfl, ((box_below w _ _ hb1).alloc (Nat.le_of_lt hz) _).drew.trans (hb2.mono (B' := w.heap.size) (by simp; omega))⟩
theorem fits1_yes (p c m a : Int) (h : Px.Is1 p a) (k : ((1 : Int) == c) = true) (hf : Px.formatV c m = true) (w : World) :
    Calls Try.prog 93 #[.int .u64 p, .agg #[.int .i64 c, .int .i64 m]] w fun e w' => e = .returned (.bool (decide (a ≤ m))) ∧ Below w.heap.size w w' := by
  go_enter Try.func93, Try.ntmps93
  go_wp2_with (go_at_call 110; refine (split1 p a h _).mono ?_; rintro e w1 ⟨rfl, hb1⟩)
  have d0 : w1.cell? ⟨w.heap.size, 0, none⟩ = some (.int .i64 c) := cell_later hb1 (by simp [go_sem])
  have d1 : w1.cell? ⟨w.heap.size, 1, none⟩ = some (.int .i64 m) := cell_later hb1 (by simp [go_sem])
  have hz : w.heap.size < w1.heap.size := by have := hb1.size; simp at this; omega
  go_region_held3 (fun w' => w'.cell? ⟨w.heap.size, 0, none⟩ = some (.int .i64 c) ∧ w'.cell? ⟨w.heap.size, 1, none⟩ = some (.int .i64 m)) (first | go_keep | (go_split_ands; refine ⟨cell_later hb2 ?_, cell_later hb2 ?_⟩ <;> assumption))
    (first | (go_at_call 111; refine (format_any _ _ _).mono ?_; rintro e w2 ⟨rfl, hb2⟩)
           | (go_at_call 112; refine (max1 _ _ _ a _ ?_).mono ?_; (exact cell_later hb2 (by simp [go_sem])); rintro e w3 ⟨rfl, rfl⟩))
  go_wp2
  go_ret
  exact ⟨rfl, ((box_below w _ _ hb1).alloc (Nat.le_of_lt hz) _).drew.trans (hb2.mono (B' := w.heap.size) (by simp; omega))⟩
theorem fits_any (p c m : Int) (hU : Px.U p) (w : World) :
    Calls Try.prog 93 #[.int .u64 p, .agg #[.int .i64 c, .int .i64 m]] w fun e w' => e = .returned (.bool (Px.fitsV p c m)) ∧ Below w.heap.size w w' := by
  rcases Px.tri hU with ⟨a, b, d, h⟩ | ⟨a, h⟩ | h
  · by_cases k : c = 3
    · subst k
      cases hf : Px.formatV 3 m
      · exact (fits3_nof p 3 m a b d h rfl hf w).mono fun e w' ⟨he, hb⟩ => ⟨by rw [he, Px.fitsV_bad hf], hb⟩
      · exact (fits3_yes p 3 m a b d _ (Lib.hid rfl) h rfl hf w).mono fun e w' ⟨he, hb⟩ => ⟨by rw [he, Px.fitsV3 h, hf]; rfl, hb⟩
    · have hl : ((Px.smp p).length : Int) ≠ c := by rw [Px.smp3 h]; simp; omega
      exact (fits3_no p c m a b d h (by rw [beq_eq_false_iff_ne]; omega) w).mono fun e w' ⟨he, hb⟩ => ⟨by rw [he, Px.fitsV_len hl], hb⟩
  · by_cases k : c = 1
    · subst k
      cases hf : Px.formatV 1 m
      · exact (fits1_nof p 1 m a h rfl hf w).mono fun e w' ⟨he, hb⟩ => ⟨by rw [he, Px.fitsV_bad hf], hb⟩
      · exact (fits1_yes p 1 m a h rfl hf w).mono fun e w' ⟨he, hb⟩ => ⟨by rw [he, Px.fitsV1 h, hf]; rfl, hb⟩
    · have hl : ((Px.smp p).length : Int) ≠ c := by rw [Px.smp1 h]; simp; omega
      exact (fits1_no p c m a h (by rw [beq_eq_false_iff_ne]; omega) w).mono fun e w' ⟨he, hb⟩ => ⟨by rw [he, Px.fitsV_len hl], hb⟩
  · by_cases k : c = 0
    · subst k
      exact (fits0_nof p 0 m hU h rfl rfl w).mono fun e w' ⟨he, hb⟩ => ⟨by rw [he, Px.fitsV_bad rfl], hb⟩
    · have hl : ((Px.smp p).length : Int) ≠ c := by rw [Px.smp0 h]; simp; omega
      exact (fits0_no p c m hU h (by rw [beq_eq_false_iff_ne]; omega) w).mono fun e w' ⟨he, hb⟩ => ⟨by rw [he, Px.fitsV_len hl], hb⟩
end Pq
end Go.Proofs.Ytflpocnbmpdhiaa

/- Whether all pixels fit a format, by the code of rasters of bytes: over any memory. Condition: not too many. -/
namespace Go.Proofs.Ytflpocnbmpdhiaa
open Go.RowKit
set_option linter.unusedVariables false

set_option maxRecDepth 100000 in
set_option maxHeartbeats 4000000 in
theorem rwFit_any (a : Option Addr) (n cap : Nat) (l : List Int) (G : Hd.H) (hn : n ≤ 9223372036854775807) (hl : ∀ p ∈ l, Pq.Px.U p) (w : World) (hs : SlK .u64 w a n l) :
    Calls Try.prog 65 #[.slice a n cap, .agg #[.int .i64 (Hj.chan G), .int .i64 G.m]] w fun e w' => e = .returned (.bool (Pl.fitAll G l)) ∧ Below w.heap.size w w' := by
  obtain ⟨V, hV⟩ : ∃ V, Pl.fitAll G l = V := ⟨_, rfl⟩
  rw [hV]
  have HV := Lib.hid hV
  have HS := Lib.hid hs
  have HU := Lib.hid hl
  have HL := Lib.hid hs.1
  obtain ⟨C, hC⟩ : ∃ C, Hj.chan G = C := ⟨_, rfl⟩
  rw [hC]
  have HC := Lib.hid hC
  have hlen0 : ¬ (n : Int) < 0 := by omega
  clear hs hl hV hC
  go_enter Try.func65, Try.ntmps65
  go_upto_region 1 with fail
  generalize hW : w.alloc (.cells #[.int .i64 C, .int .i64 G.m] 108) = w1
  have HB1 : Hid (Below w.heap.size w w1) := by show Below _ _ _; rw [← hW]; exact box1' _ _
  have hf0 : w1.cell? ⟨w.heap.size, 0, none⟩ = some (.int .i64 C) := by rw [← hW]; simp [go_sem]
  have hf1 : w1.cell? ⟨w.heap.size, 1, none⟩ = some (.int .i64 G.m) := by rw [← hW]; simp [go_sem]
  obtain ⟨fb, hfb⟩ : ∃ k, w.heap.size = k := ⟨_, rfl⟩
  rw [hfb] at hf0 hf1
  have hfl : fb < w1.heap.size := by rw [← hfb, ← hW]; simp
  have HF0 := Lib.hid hf0; have HF1 := Lib.hid hf1
  have HFB := Lib.hid hfb
  clear hW hf0 hf1
  rw [hfb]
  clear hfb
  go_wp2_with fail
  go_loopw [9] (fun u9 wr => ∃ i : Nat, i ≤ n ∧ u9 = .int .i64 i ∧ (∀ j, j < i → Pq.Px.fitsV (l.getD j 0) C G.m = true) ∧ Below w1.heap.size w1 wr) (fun u9 _ => n - (intOf u9).toNat)
  case atStart => exact ⟨0, Nat.zero_le _, rfl, (fun j hj => absurd hj (Nat.not_lt_zero _)), .refl _ _⟩
  case round =>
    obtain ⟨i, hi, rfl, hfit, hB⟩ := hrel
    have HB := Lib.hid hB
    have HFIT := Lib.hid hfit
    have f0 := cell_later hB HF0.out
    have f1 := cell_later hB HF1.out
    clear hB hfit
    by_cases hlt : i < n
    · have hil : i < l.length := by rw [HL.out]; exact hlt
      obtain ⟨p, hp⟩ : ∃ p, l.getD i 0 = p := ⟨_, rfl⟩
      have hU : Pq.Px.U p := by rw [← hp]; exact HU.out _ (getD_mem hil)
      obtain ⟨F, hF⟩ : ∃ F, Pq.Px.fitsV p C G.m = F := ⟨_, rfl⟩
      have HFT : Hid (∀ W, Calls Try.prog 93 #[.int .u64 p, .agg #[.int .i64 C, .int .i64 G.m]] W fun e w' => e = .returned (.bool F) ∧ Below W.heap.size W w') := Lib.hid fun W => by rw [← hF]; exact Pq.fits_any p C G.m hU W
      have HFF := Lib.hid (show Pq.Px.fitsV (l.getD i 0) C G.m = F by rw [hp]; exact hF)
      obtain ⟨blk, off, ha, c0⟩ : ∃ blk off, a = some ⟨blk, off, none⟩ ∧ wr.cell? ⟨blk, off + i, none⟩ = some (.int .u64 p) := by
        rcases HS.out.2 with h | ⟨blk, off, rfl, hc⟩
        · omega
        · exact ⟨blk, off, rfl, cell_later (HB1.out.trans (HB.out.mono HB1.out.size)) (by rw [hc i hlt, hp])⟩
      subst ha
      have HIL := Lib.hid hil
      clear hp hU hF hil
      cases F with
      | false =>
        have HVV : Hid (V = false) := by
          refine Lib.hid ?_
          rw [← HV.out]
          exact Pl.fitAll_no HIL.out (by rw [HC.out]; exact HFF.out)
        go_wp2_with fail
        refine (HFT.out _).mono ?_
        rintro e w2 ⟨rfl, hb⟩
        have HB2 := Lib.hid hb
        clear hb
        go_wp2_with fail
        go_ret
        rw [HVV.out]
        exact ⟨rfl, HB1.out.trans ((HB.out.trans (HB2.out.mono HB.out.size)).mono HB1.out.size)⟩
      | true =>
        go_wp2_with fail
        refine (HFT.out _).mono ?_
        rintro e w2 ⟨rfl, hb⟩
        have HB2 := Lib.hid hb
        clear hb
        have FITN : Hid (∀ j, j < i + 1 → Pq.Px.fitsV (l.getD j 0) C G.m = true) := Lib.hid fun j hj => by
          by_cases he : j = i
          · rw [he]; exact HFF.out
          · exact HFIT.out j (by omega)
        go_wp2_with fail
        go_roundw
        case rel => exact ⟨i + 1, by omega, by go_num, FITN.out, HB.out.trans (HB2.out.mono HB.out.size)⟩
        case measure => simp [intOf]; omega
    · have hin : i = n := by omega
      subst hin
      have HVV : Hid (V = true) := by
        refine Lib.hid ?_
        rw [← HV.out]
        exact Pl.fitAll_yes (fun j hj => by rw [HC.out]; exact HFIT.out j (by rw [HL.out] at hj; exact hj))
      go_wp2_with fail
      go_ret
      rw [HVV.out]
      exact ⟨rfl, HB1.out.trans (HB.out.mono HB1.out.size)⟩
end Go.Proofs.Ytflpocnbmpdhiaa

/- Whether all pixels fit a format, by the code; a list in parts of one length, handed out one by one: over any memory. Condition: not too many. -/
namespace Go.Proofs.Ytflpocnbmpdhiaa
open Go.RowKit Go.Shelf
set_option linter.unusedVariables false

set_option maxRecDepth 100000 in
set_option maxHeartbeats 4000000 in
theorem plFit_any (a : Option Addr) (n cap : Nat) (l : List Int) (G : Hd.H) (hn : n ≤ 9223372036854775807) (hl : ∀ p ∈ l, Pq.Px.U p) (w : World) (hs : SlK .u64 w a n l) :
    Calls Try.prog 73 #[.slice a n cap, .agg #[.int .i64 (Hj.chan G), .int .i64 G.m]] w fun e w' => e = .returned (.bool (Pl.fitAll G l)) ∧ Below w.heap.size w w' := by
  obtain ⟨V, hV⟩ : ∃ V, Pl.fitAll G l = V := ⟨_, rfl⟩
  rw [hV]
  have HV := Lib.hid hV
  have HS := Lib.hid hs
  have HU := Lib.hid hl
  have HL := Lib.hid hs.1
  obtain ⟨C, hC⟩ : ∃ C, Hj.chan G = C := ⟨_, rfl⟩
  rw [hC]
  have HC := Lib.hid hC
  have hlen0 : ¬ (n : Int) < 0 := by omega
  clear hs hl hV hC
  go_enter Try.func73, Try.ntmps73
  go_upto_region 1 with fail
  generalize hW : w.alloc (.cells #[.int .i64 C, .int .i64 G.m] 108) = w1
  have HB1 : Hid (Below w.heap.size w w1) := by show Below _ _ _; rw [← hW]; exact box1' _ _
  have hf0 : w1.cell? ⟨w.heap.size, 0, none⟩ = some (.int .i64 C) := by rw [← hW]; simp [go_sem]
  have hf1 : w1.cell? ⟨w.heap.size, 1, none⟩ = some (.int .i64 G.m) := by rw [← hW]; simp [go_sem]
  obtain ⟨fb, hfb⟩ : ∃ k, w.heap.size = k := ⟨_, rfl⟩
  rw [hfb] at hf0 hf1
  have hfl : fb < w1.heap.size := by rw [← hfb, ← hW]; simp
  have HF0 := Lib.hid hf0; have HF1 := Lib.hid hf1
  have HFB := Lib.hid hfb
  clear hW hf0 hf1
  rw [hfb]
  clear hfb
  go_wp2_with fail
  go_loopw [9] (fun u9 wr => ∃ i : Nat, i ≤ n ∧ u9 = .int .i64 i ∧ (∀ j, j < i → Pq.Px.fitsV (l.getD j 0) C G.m = true) ∧ Below w1.heap.size w1 wr) (fun u9 _ => n - (intOf u9).toNat)
  case atStart => exact ⟨0, Nat.zero_le _, rfl, (fun j hj => absurd hj (Nat.not_lt_zero _)), .refl _ _⟩
  case round =>
    obtain ⟨i, hi, rfl, hfit, hB⟩ := hrel
    have HB := Lib.hid hB
    have HFIT := Lib.hid hfit
    have f0 := cell_later hB HF0.out
    have f1 := cell_later hB HF1.out
    clear hB hfit
    by_cases hlt : i < n
    · have hil : i < l.length := by rw [HL.out]; exact hlt
      obtain ⟨p, hp⟩ : ∃ p, l.getD i 0 = p := ⟨_, rfl⟩
      have hU : Pq.Px.U p := by rw [← hp]; exact HU.out _ (getD_mem hil)
      obtain ⟨F, hF⟩ : ∃ F, Pq.Px.fitsV p C G.m = F := ⟨_, rfl⟩
      have HFT : Hid (∀ W, Calls Try.prog 93 #[.int .u64 p, .agg #[.int .i64 C, .int .i64 G.m]] W fun e w' => e = .returned (.bool F) ∧ Below W.heap.size W w') := Lib.hid fun W => by rw [← hF]; exact Pq.fits_any p C G.m hU W
      have HFF := Lib.hid (show Pq.Px.fitsV (l.getD i 0) C G.m = F by rw [hp]; exact hF)
      obtain ⟨blk, off, ha, c0⟩ : ∃ blk off, a = some ⟨blk, off, none⟩ ∧ wr.cell? ⟨blk, off + i, none⟩ = some (.int .u64 p) := by
        rcases HS.out.2 with h | ⟨blk, off, rfl, hc⟩
        · omega
        · exact ⟨blk, off, rfl, cell_later (HB1.out.trans (HB.out.mono HB1.out.size)) (by rw [hc i hlt, hp])⟩
      subst ha
      have HIL := Lib.hid hil
      clear hp hU hF hil
      cases F with
      | false =>
        have HVV : Hid (V = false) := by
          refine Lib.hid ?_
          rw [← HV.out]
          exact Pl.fitAll_no HIL.out (by rw [HC.out]; exact HFF.out)
        go_wp2_with fail
        refine (HFT.out _).mono ?_
        rintro e w2 ⟨rfl, hb⟩
        have HB2 := Lib.hid hb
        clear hb
        go_wp2_with fail
        go_ret
        rw [HVV.out]
        exact ⟨rfl, HB1.out.trans ((HB.out.trans (HB2.out.mono HB.out.size)).mono HB1.out.size)⟩
      | true =>
        go_wp2_with fail
        refine (HFT.out _).mono ?_
        rintro e w2 ⟨rfl, hb⟩
        have HB2 := Lib.hid hb
        clear hb
        have FITN : Hid (∀ j, j < i + 1 → Pq.Px.fitsV (l.getD j 0) C G.m = true) := Lib.hid fun j hj => by
          by_cases he : j = i
          · rw [he]; exact HFF.out
          · exact HFIT.out j (by omega)
        go_wp2_with fail
        go_roundw
        case rel => exact ⟨i + 1, by omega, by go_num, FITN.out, HB.out.trans (HB2.out.mono HB.out.size)⟩
        case measure => simp [intOf]; omega
    · have hin : i = n := by omega
      subst hin
      have HVV : Hid (V = true) := by
        refine Lib.hid ?_
        rw [← HV.out]
        exact Pl.fitAll_yes (fun j hj => by rw [HC.out]; exact HFIT.out j (by rw [HL.out] at hj; exact hj))
      go_wp2_with fail
      go_ret
      rw [HVV.out]
      exact ⟨rfl, HB1.out.trans (HB.out.mono HB1.out.size)⟩
/-- what Chunk hands back -/
def ChMade (v : Value) (c : Nat) (w : World) (e : Ending) (w' : World) : Prop :=
  ∃ nb bb, e = .returned (.func (.func 94) #[] #[.pointer (some ⟨nb, 0, none⟩), .pointer (some ⟨bb, 0, none⟩)]) ∧ nb ≠ bb ∧ w.heap.size ≤ nb ∧ w.heap.size ≤ bb ∧ nb < w'.heap.size ∧ bb < w'.heap.size ∧
    w'.cell? ⟨nb, 0, none⟩ = some v ∧ w'.cell? ⟨bb, 0, none⟩ = some (.int .i64 c) ∧ Below w.heap.size w w'
theorem ch_made (a : Option Addr) (len cap c : Nat) (hc : 1 ≤ c) (w : World) : Calls Try.prog 67 #[.slice a len cap, .int .i64 c] w (ChMade (.slice a len cap) c w) := by
  have h1 : ¬ (c : Int) < 1 := by omega
  go_enter Try.func67, Try.ntmps67
  go_wp2
  go_ret
  exact ⟨_, _, rfl, by omega, by omega, by omega, by first | (simp; done) | (simp; omega), by first | (simp; done) | (simp; omega), by simp [go_sem], by simp [go_sem], by go_grown⟩
end Go.Proofs.Ytflpocnbmpdhiaa

/- The pixels of a raster of bytes in a block of their own; what is written is read; digits' heads. Condition: the head may be. -/
namespace Go.Proofs.Ytflpocnbmpdhiaa
open Go.RowKit
set_option linter.unusedVariables false
theorem rwPixels_own {w0 : World} {a : Option Addr} {ln cap : Nat} {z : List Int} (hr : IsRow .i64 w0 a ln cap z) (G : Hd.H) (hm : Rw.May G) (N : Nat) (hN : G.w * G.h = (N : Int)) (hN1 : N ≤ 100000) (hN0 : 1 ≤ N) (w : World) (hb : Below w0.heap.size w0 w) :
    Calls Try.prog 38 #[.slice a ln cap, agH G] w fun e w' => ∃ pb cp l, e = .returned (.slice (some ⟨pb, 0, none⟩) N cp) ∧ l.length = N ∧ Pl.Fits G l ∧ SlK .u64 w' (some ⟨pb, 0, none⟩) N l ∧ w.heap.size ≤ pb ∧ pb < w'.heap.size ∧ (∀ i, w'.frozen? ⟨pb, i, none⟩ = false) ∧ N ≤ cp ∧ cp ≤ 9223372036854775807 ∧ Below w.heap.size w w' := by
  have hs := (isrow_takeK hr ln (Nat.le_refl _)).below hb
  have hI : ∀ x ∈ z.take ln, Nu.I x := fun x hx => wfI (isrow_wfK hr x (List.mem_of_mem_take hx))
  obtain ⟨l1, l2, l3, l4⟩ := isrow_len hr
  have hout : ∀ e w', PxR N G w e w' → ∃ pb cp l, e = .returned (.slice (some ⟨pb, 0, none⟩) N cp) ∧ l.length = N ∧ Pl.Fits G l ∧ SlK .u64 w' (some ⟨pb, 0, none⟩) N l ∧ w.heap.size ≤ pb ∧ pb < w'.heap.size ∧ (∀ i, w'.frozen? ⟨pb, i, none⟩ = false) ∧ N ≤ cp ∧ cp ≤ 9223372036854775807 ∧ Below w.heap.size w w' := by
    rintro e w' ⟨ad, cp, l, h1, h2, h3, h4, h5⟩
    have H4 := h4
    rcases h4.2 with ⟨hv, h0⟩ | ⟨g, cap, cur, hv, k1, k2, k3, k4, k5, k6⟩
    · omega
    · injection hv with e1 e2 e3
      subst e1; subst e3
      exact ⟨g, cp, l, h1, h2, h3, slk_of_row H4 h2, k1, (H4.lt g rfl).2, fun i => H4.frozenAt i, k3, by unfold maxLen at k4; omega, h5⟩
  by_cases hz : ln = 0
  · exact (rwPixels_zero a ln cap (z.take ln) G hm N hN hN1 w hz hs hI).mono hout
  · rcases hs.2 with h | ⟨blk, off, rfl, hc⟩
    · have := hs.1; rw [h] at this; simp at this; omega
    · exact (rwPixels_pos blk off ln cap (z.take ln) G hm N hN hN1 w l1 hz hs.1 hc hI).mono hout
/-- what is written is read, with bytes behind it -/
theorem Rw.read_good {G : Hd.H} (hm : Rw.May G) {l : List Int} (hl : Pl.Fits G l) {W H : Nat} (hW : G.w = (W : Int)) (hH : G.h = (H : Int)) (hL : l.length = W * H) (more : List Int) : Rw.readV G (Rw.wRows G l W H ++ more) = (l, 0) := by
  have hlen := Rw.wRows_len hm hl hW hL H (Nat.le_refl _)
  have hsz : Hj.size G = ((Rw.wRows G l W H).length : Int) := by
    rw [Rw.size_eq hm, hH, hlen, Int.natCast_mul]
  rw [Rw.readV_ref hm]
  have e : Rw.badV G (Rw.wRows G l W H ++ more) = 0 := by
    rw [Rw.badV_eq, hsz]
    show Rw.badN G (Rw.wRows G l W H ++ more) (Rw.wRows G l W H).length = 0
    rw [← Rw.bad_none hm hl hL (Rw.wRows G l W H).length (Nat.le_refl _)]
    unfold Rw.badN
    rw [List.take_append_of_le_length (Nat.le_refl _)]
  unfold Rw.refV
  rw [e, if_neg (by omega), if_neg (by rw [hsz, List.length_append]; omega), hH]
  show (Rw.rowsV G _ H, _) = _
  rw [Rw.rows_back hm hl hW hL more H (Nat.le_refl _), List.take_of_length_le (by rw [hL, Nat.mul_comm]; exact Nat.le_refl _)]
theorem rp_may {kd a b m : Int} (hm : Rw.May ⟨kd, a, b, m⟩) : Pl.May ⟨kd - 3, a, b, m⟩ := by
  have h := hm.m
  obtain ⟨h1, h2⟩ := hm
  simp only at h h2
  obtain ⟨c1, c2, c3, c4, c5⟩ := h1
  refine ⟨⟨⟨by simp only; omega, by simp only; omega⟩, c2, c3, c4, fun hb => c5 ?_⟩, by simp only; omega⟩
  unfold Hd.bits at hb ⊢
  simp only [decide_eq_true_eq] at hb ⊢
  omega
theorem rp_chan {kd a b m : Int} (hm : Rw.May ⟨kd, a, b, m⟩) : Hj.chan ⟨kd - 3, a, b, m⟩ = Hj.chan ⟨kd, a, b, m⟩ := by
  have h := hm.m
  simp only at h
  unfold Hj.chan
  simp only
  by_cases h6 : kd = 6
  · rw [if_pos (by omega), if_pos (by omega)]
  · rw [if_neg (by omega), if_neg (by omega)]
theorem rp_small {G : Hd.H} (hm : Rw.May G) {gw : Nat} (hw : gw ≤ 5) (hg : G.w = (gw : Int) := by rfl) : Rw.stride G ≤ 30 := by
  have hs := Rw.stride_at hm
  have hmm := hm.m
  by_cases h4 : G.kd = 4
  · have := hs.2.2.1 h4; omega
  · have h5 := hs.2.2.2 h4
    rcases Rw.chan_at G with ⟨_, hc⟩ | ⟨_, hc⟩ <;> rcases Rw.wide_at G with ⟨_, hw⟩ | ⟨_, hw⟩ <;> simp only [hc, hw] at h5 <;> omega
end Go.Proofs.Ytflpocnbmpdhiaa

/- What a builder of strings takes, over any memory: which blocks may change is told. Condition: not too long. -/
namespace Go.Proofs.Ytflpocnbmpdhiaa
open Go.RowKit Go.Shelf
set_option linter.unusedVariables false
/-- a builder's two cells -/
def Bd (w : World) (b : Nat) (p v : Value) : Prop := w.heap[b]? = some (.cells #[p, v] 122 (0, 0))
theorem Bd.lt {w : World} {b : Nat} {p v : Value} (h : Bd w b p v) : b < w.heap.size := (Array.getElem?_eq_some_iff.1 h).1
theorem Bd.c0 {w : World} {b : Nat} {p v : Value} (h : Bd w b p v) : w.cell? ⟨b, 0, none⟩ = some p := by have h' : w.heap[b]? = _ := h; simp [World.cell?, h']
theorem Bd.c1 {w : World} {b : Nat} {p v : Value} (h : Bd w b p v) : w.cell? ⟨b, 1, none⟩ = some v := by have h' : w.heap[b]? = _ := h; simp [World.cell?, h']
theorem Bd.f {w : World} {b : Nat} {p v : Value} (h : Bd w b p v) (o : Nat) : w.frozen? ⟨b, o, none⟩ = false := by have h' : w.heap[b]? = _ := h; simp [World.frozen?, h']
theorem Bd.put0 {w : World} {b : Nat} {p v : Value} (h : Bd w b p v) (q : Value) : Bd (w.setCell ⟨b, 0, none⟩ q) b q v := by
  have h' : w.heap[b]? = _ := h
  have := Go.heap_setCell_same w b 0 _ _ q h'
  simpa [Bd] using this
theorem Bd.put1 {w : World} {b : Nat} {p v : Value} (h : Bd w b p v) (u : Value) : Bd (w.setCell ⟨b, 1, none⟩ u) b p u := by
  have h' : w.heap[b]? = _ := h
  have := Go.heap_setCell_same w b 1 _ _ u h'
  simpa [Bd] using this
theorem copy_any (b : Nat) (p v : Value) (hp : p = .pointer none ∨ p = .pointer (some ⟨b, 0, none⟩)) (w : World) (h : Bd w b p v) :
    Calls Try.prog 98 #[.pointer (some ⟨b, 0, none⟩)] w fun e w' => e = .returned (.tuple #[]) ∧ Bd w' b (.pointer (some ⟨b, 0, none⟩)) v ∧ (w' = w ∨ w' = w.setCell ⟨b, 0, none⟩ (.pointer (some ⟨b, 0, none⟩))) := by
  rcases hp with rfl | rfl
  · have h' : w.heap[b]? = _ := h
    refine (Any.Builder_copyCheck_fresh Sh.lays240 Sh.Builder_Extra_156.toX72 b w h.c0 (by simp [World.shape?, h']; rfl) (h.f 0)).mono ?_
    rintro e w' ⟨rfl, rfl⟩
    exact ⟨rfl, h.put0 _, .inr rfl⟩
  · refine (Any.Builder_copyCheck_used Sh.lays240 Sh.Builder_Extra_156.toX72 b w h.c0).mono ?_
    rintro e w' ⟨rfl, rfl⟩
    exact ⟨rfl, h, .inl rfl⟩
/-- where the row lies that an append of a text's bytes yields -/
theorem run_str_hat {P : Program} {w : World} (base : Nat) (t u ty e : TypeId) (i : TypeInfo) (ht : P.underlying t = some (.slice e)) (hu : P.underlying u = some .string) (hi : P.info? e = some i) (hz : i.zero = some (.int .u8 0))
    (hsize : i.size = 1) (hby : i.bytes = 1) (v : Value) (n : Nat) (xs : List Value) (hown : w.ownsRow base e 1 v n xs) (s : ByteArray) (h63 : n + s.size ≤ maxLen) (hbytes : n + s.size ≤ 140737488355328) (hbase : base ≤ w.heap.size) :
    ∃ v' w', (Builtin.append_ #[t, u] ty #[v, .string s]).run P w = .ok v' w' ∧ w'.ownsRow base e 1 v' (n + s.size) (xs ++ Lib.strCells s) ∧ w.grownBy w' v.ownBlock ∧ (∀ g, v'.ownBlock = some g → v.ownBlock = some g ∨ w.heap.size ≤ g) := by
  obtain ⟨v', w', hr, h2, h3, h4⟩ := Lib.run_append_own_string (P := P) (w := w) base t u ty e i ht hu hi hz hsize hby v n xs hown s h63 hbytes hbase
  refine ⟨v', w', hr, h2, h3, ?_⟩
  rcases id hown.2 with ⟨rfl, rfl⟩ | ⟨g, cap, cur, rfl, hb, hg, hnc, hm, hsz, htk⟩
  · have hx : xs = [] := List.length_eq_zero_iff.1 (by simpa using hown.1)
    subst hx
    obtain ⟨v2, w2, hr2, k2, k3, k4⟩ := Lib.run_append_own_string (P := P) (w := w) w.heap.size t u ty e i ht hu hi hz hsize hby (.slice none 0 0) 0 [] (World.ownsRow_nil _ _ _ _) s h63 hbytes (Nat.le_refl _)
    rw [hr] at hr2
    injection hr2 with e1 e2
    subst e1
    exact fun g hg => .inr (k2.lt g hg).1
  · by_cases hroom : n + s.size ≤ cap
    · have := Lib.run_append_room_string (P := P) (w := w) t u ty e i ht hu hi hsize g n cap cur hg s hroom (by omega)
      rw [hr] at this
      injection this with e1 e2
      subst e1
      exact fun g' hg' => .inl hg'
    · have hxl : xs.length = n := by simpa using hown.1
      have holds : ∀ (j : Nat) u, xs[j]? = some u → w.cell? ((⟨g, 0, none⟩ : Addr).add j) = some u := fun j u hj => by
        have hjn : j < xs.length := (List.getElem?_eq_some_iff.1 hj).1
        rw [addrK_add, Nat.zero_add, hown.cellAt j (by omega)]; exact hj
      have := Lib.run_append_grow_string (P := P) (w := w) t u ty e i (.int .u8 0) ht hu hi hz ⟨g, 0, none⟩ n cap xs (by rw [hsize]; simpa using hxl) holds s (by omega) (by unfold maxLen at h63; omega) (by rw [hby]; exact growslice_fits (by omega) (by omega))
      rw [hr] at this
      injection this with e1 e2
      subst e1
      intro g' hg'
      simp only [Value.ownBlock] at hg'
      injection hg' with hg'
      exact .inr (by omega)
theorem Try.info_u8 : (Try.prog.info? 5).map (fun i => (i.zero, i.size, i.bytes)) = some (some (.int .u8 0), 1, 1) := by kernel_rfl
theorem wpList_str {P : Program} {w : World} {ops : Array Oper} {rest : List Oper} {o : Oper} {a : Act} {Q : Exit → Act → World → Prop} (hgd : o.guard = none) (sl x : Operand) (t u : TypeId)
    (ho : o.op = .call { callee := .builtin .append, args := #[sl, x], argTypes := #[t, u] })
    (base : Nat) (e : TypeId) (i : TypeInfo) (ht : P.underlying t = some (.slice e)) (hu : P.underlying u = some .string) (hi : P.info? e = some i) (hz : i.zero = some (.int .u8 0))
    (hsize : i.size = 1) (hby : i.bytes = 1)
    (v : Value) (n : Nat) (xs : List Value) (hs : a.eval sl = v) (hown : w.ownsRow base e 1 v n xs) (s : ByteArray) (hx : a.eval x = .string s)
    (h63 : n + s.size ≤ maxLen) (hbytes : n + s.size ≤ 140737488355328) (hbase : base ≤ w.heap.size)
    (h : ∀ v' w', w'.ownsRow base e 1 v' (n + s.size) (xs ++ Lib.strCells s) → w.grownBy w' v.ownBlock → (∀ g, v'.ownBlock = some g → v.ownBlock = some g ∨ w.heap.size ≤ g) → wpList P ops Q rest (a.put o.dst v') w') : wpList P ops Q (o :: rest) a w := by
  refine wpList_plain hgd fun K hK => ?_
  obtain ⟨v', w', hr, h2, h3, h4⟩ := run_str_hat (P := P) (w := w) base t u o.type e i ht hu hi hz hsize hby v n xs hown s h63 hbytes hbase
  unfold Oper.wp execOp
  simp only [ho, resolve, invoke, builtin, Sem.run_bind, Sem.run_pure, Result.andThen_ok, List.map_toArray, List.map_cons, List.map_nil, hs, hx, hr]
  exact hK _ _ (h v' w' h2 h3 h4)
theorem row_val {w : World} {base size n : Nat} {e : TypeId} {v : Value} {xs : List Value} (h : w.ownsRow base e size v n xs) : ∃ ad cap, v = .slice ad n cap := by
  rcases h.2 with ⟨rfl, rfl⟩ | ⟨g, cap, cur, rfl, -⟩
  · exact ⟨none, 0, rfl⟩
  · exact ⟨_, cap, rfl⟩
/-- a builder that holds these bytes; its row is one's own from a block on -/
structure Bl (w : World) (base b : Nat) (v : Value) (bs : List Value) : Prop where
  bd : ∃ p, (p = .pointer none ∨ p = .pointer (some ⟨b, 0, none⟩)) ∧ Bd w b p v
  row : w.ownsRow base 5 1 v bs.length bs
  ne : v.ownBlock ≠ some b
theorem Bl.sep {w w' : World} {base b : Nat} {v : Value} {bs : List Value} {Z : Nat → Prop} (h : Bl w base b v bs) (hs : Sep Z w w') (hz : ¬ Z b) (hv : ∀ g, v.ownBlock = some g → ¬ Z g) : Bl w' base b v bs := by
  obtain ⟨⟨p, hp, hb⟩, hr, hne⟩ := h
  refine ⟨⟨p, hp, (hs.block b hb.lt hz).trans hb⟩, ?_, hne⟩
  obtain ⟨h1, h2⟩ := hr
  refine ⟨h1, ?_⟩
  rcases h2 with h2 | ⟨g, cap, cur, rfl, k1, k2, k3⟩
  · exact .inl h2
  · refine .inr ⟨g, cap, cur, rfl, k1, ?_, k3⟩
    rw [hs.block g (Array.getElem?_eq_some_iff.1 k2).1 (hv g rfl)]; exact k2
set_option maxRecDepth 100000 in
set_option maxHeartbeats 2000000 in
theorem write_any (base b : Nat) (v : Value) (bs : List Value) (s : ByteArray) (w : World) (H : Bl w base b v bs) (hlen : bs.length + s.size ≤ 140737488355328) (hbase : base ≤ w.heap.size) :
    Calls Try.prog 74 #[.pointer (some ⟨b, 0, none⟩), .string s] w fun e w' => ∃ v', e = .returned (.tuple #[.int .i64 s.size, .nilIface]) ∧ Bl w' base b v' (bs ++ Lib.strCells s) ∧ Sep (fun k => k = b ∨ v.ownBlock = some k) w w' ∧ (∀ g, v'.ownBlock = some g → v.ownBlock = some g ∨ w.heap.size ≤ g) := by
  obtain ⟨⟨p, hp, hb⟩, hr, hne⟩ := H
  obtain ⟨i0, hi, hz0, hz1, hz2⟩ : ∃ i, Try.prog.info? 5 = some i ∧ i.zero = some (.int .u8 0) ∧ i.size = 1 ∧ i.bytes = 1 := (by have h := Try.info_u8; cases hh : Try.prog.info? 5 with | none => rw [hh] at h; cases h | some i => rw [hh] at h; simp at h; exact ⟨i, rfl, h.1, h.2.1, h.2.2⟩)
  have HCP := Lib.hid (copy_any b p v hp w hb)
  have HR := Lib.hid hr
  have hlt := hb.lt
  have HNE := Lib.hid hne
  obtain ⟨n, hn⟩ : ∃ n, bs.length = n := ⟨_, rfl⟩
  rw [hn] at HR hlen
  have HN := Lib.hid hn
  clear hb hr hp hne hn
  go_enter Try.func74, Try.ntmps74
  go_wp2_with fail
  refine HCP.out.mono ?_
  rintro e w1 ⟨rfl, hb1, hw1⟩
  have hs1 : Sep (fun k => k = b) w w1 := by
    rcases hw1 with rfl | rfl
    · exact .refl _ _
    · exact Sep.setCell (Z := fun k => k = b) (b := b) (o := 0) (p := none) _ rfl _
  have hsz : w1.heap.size = w.heap.size := by rcases hw1 with rfl | rfl <;> simp [World.setCell]
  have HR1 : Hid (w1.ownsRow base 5 1 v n bs) := by
    refine Lib.hid ?_
    obtain ⟨h1, h2⟩ := HR.out
    refine ⟨h1, ?_⟩
    rcases h2 with h2 | ⟨g, cap, cur, rfl, k1, k2, k3⟩
    · exact .inl h2
    · refine .inr ⟨g, cap, cur, rfl, k1, ?_, k3⟩
      rw [hs1.block g (Array.getElem?_eq_some_iff.1 k2).1 (fun e => HNE.out (by rw [e]; rfl))]; exact k2
  have HS1 := Lib.hid hs1
  have HD1 := Lib.hid hb1
  have c1 := hb1.c1
  have f1 := hb1.f 1
  have hl1 := hb1.lt
  clear hs1 hb1 hw1
  go_wp2_with (at_builtin; refine wpList_str rfl _ _ 33 9 rfl base 5 i0 Try.underlying33 Try.underlying9 hi hz0 hz1 hz2 v n bs rfl HR1.out s rfl (by unfold maxLen; omega) hlen (by omega) ?_; intro v2 w2 hown hgrow hat; obtain ⟨ad2, cp2, rfl⟩ := row_val hown; have HO2 := Lib.hid hown; have HG2 := Lib.hid hgrow; have HA2 := Lib.hid hat; have hd2 : Bd w2 b (.pointer (some ⟨b, 0, none⟩)) v := (hgrow.block b hl1 (fun e => HNE.out e.symm)).trans HD1.out; have HD2 := Lib.hid hd2; have d1 := hd2.c1; have g1 := hd2.f 1; have hl2 := hd2.lt; clear hown hgrow hat hd2 c1 f1)
  go_ret2
  obtain ⟨u2, hu2⟩ : ∃ u2, Value.slice ad2 (n + s.size) cp2 = u2 := ⟨_, rfl⟩
  have ho := HO2.out
  have ha := HA2.out
  rw [hu2] at ho ha ⊢
  have hne2 : u2.ownBlock ≠ some b := fun e => by
    rcases ha b e with h | h
    · exact HNE.out h
    · omega
  have hsep : Sep (fun k => k = b ∨ v.ownBlock = some k) w (w2.setCell ⟨b, 1, none⟩ u2) := by
    have s1 : Sep (fun k => k = b ∨ v.ownBlock = some k) w w1 := HS1.out.mono fun k hk => .inl hk
    have s2 : Sep (fun k => k = b ∨ v.ownBlock = some k) w1 w2 := ⟨HG2.out.os, HG2.out.tape, HG2.out.output, HG2.out.size, fun k hk hz => HG2.out.block k hk fun e => hz (.inr e.symm)⟩
    exact (s1.trans s2).trans (Sep.setCell (Z := fun k => k = b ∨ v.ownBlock = some k) (b := b) (o := 1) (p := none) _ (.inl rfl) _)
  refine ⟨u2, rfl, ⟨⟨_, .inr rfl, HD2.out.put1 u2⟩, ?_, hne2⟩, hsep, fun g hg => by rw [← hsz]; exact ha g hg⟩
  rw [List.length_append, Lib.strCells_length, HN.out]
  obtain ⟨h1, h2⟩ := ho
  refine ⟨h1, ?_⟩
  rcases h2 with h2 | ⟨g, cap, cur, e, k1, k2, k3⟩
  · exact .inl h2
  · refine .inr ⟨g, cap, cur, e, k1, ?_, k3⟩
    rw [Go.heap_setCell_other _ _ _ _ (fun e2 => hne2 (by rw [e, e2]; rfl))]; exact k2
end Go.Proofs.Ytflpocnbmpdhiaa

/- Plain facts on lines of a raster of digits: a row's parts are its text. No condition. -/
namespace Go.Proofs.Ytflpocnbmpdhiaa
open Go.RowKit
set_option linter.unusedVariables false
namespace Pl
theorem joinI_nil : ∀ xs : List (List Int), joinI [] xs = xs.flatten
  | [] => rfl
  | [x] => by simp [joinI]
  | x :: y :: r => by
    have := joinI_nil (y :: r)
    simp only [joinI, this]
    simp
theorem wTk_join {G : Hd.H} {p : Int} (hp : Pq.GoodP p (Hj.chan G) G.m) : wTk (Pq.Px.smp p) (Pq.Px.smp p).length = joinI [32] ((Pq.Px.smp p).map Nu.decV) := by
  rcases hp with ⟨hc, x, y, z, h3, -⟩ | ⟨hc, x, h1, -⟩
  · rw [Pq.Px.smp3 h3]; simp [wTk, joinI]
  · rw [Pq.Px.smp1 h1]; simp [wTk, joinI]
theorem wTk_one {G : Hd.H} {p : Int} (hm : May G) (hk : G.kd = 1) (hp : Pq.GoodP p (Hj.chan G) G.m) : wTk (Pq.Px.smp p) (Pq.Px.smp p).length = ((Pq.Px.smp p).map Nu.decV).flatten := by
  have hc := chan13 hm
  rcases hp with ⟨hc2, -⟩ | ⟨hc2, x, h1, -⟩
  · omega
  · rw [Pq.Px.smp1 h1]; simp [wTk]
theorem wLn_one {G : Hd.H} {n gw x : Nat} (hk : G.kd = 1) (hg : G.w = (gw : Int)) (hx : n % gw = x) : wLn G n = (decide (x + 1 = gw) || decide (x % 70 = 69)) := by
  have e : (n : Int) % (gw : Int) = (x : Int) := by rw [← hx]; simp
  unfold wLn
  rw [hg, e, hk]
  have h1 : (((x : Int) == (gw : Int) - 1) : Bool) = decide (x + 1 = gw) := by
    rw [Bool.eq_iff_iff]; simp; omega
  have h2 : (((x : Int) % 70 == 69) : Bool) = decide (x % 70 = 69) := by
    rw [Bool.eq_iff_iff]; simp; omega
  rw [h1, h2]; simp
theorem part_mid {G : Hd.H} {l : List Int} {i gw x0 r : Nat} (hm : May G) (hl : Fits G l) (hk : G.kd = 1) (hg : G.w = (gw : Int)) (hi : i % gw = x0) (hr : x0 + r ≤ gw) (hr7 : x0 % 70 = 0) (hr70 : r ≤ 70) (hil : i + r ≤ l.length) :
    ∀ j, j < r → wAll G l (i + j) = wAll G l i ++ ((((l.drop i).take j).flatMap Pq.Px.smp).map Nu.decV).flatten
  | 0, _ => by simp
  | j + 1, hj => by
    have ih := part_mid hm hl hk hg hi hr hr7 hr70 hil j (by omega)
    have hgd := hl _ (getD_mem (show i + j < l.length by omega))
    have hx : (i + j) % gw = x0 + j := by
      have h0 := Nat.div_add_mod i gw
      rw [show i + j = gw * (i / gw) + (x0 + j) by omega, Nat.mul_add_mod, Nat.mod_eq_of_lt (by omega)]
    have hw : wLn G (i + j) = false := by
      rw [wLn_one hk hg hx]
      have h1 : ¬ (x0 + j + 1 = gw) := by omega
      have h2 : ¬ ((x0 + j) % 70 = 69) := by omega
      simp [h1, h2]
    rw [← Nat.add_assoc, wAll_succ, hw, if_neg (by simp), List.append_nil, ih, wTk_one hm hk hgd]
    have ht : (l.drop i).take (j + 1) = (l.drop i).take j ++ [l.getD (i + j) 0] := (take_part (by omega) rfl).symm
    rw [ht]
    simp
/-- a row's k-th part -/
theorem row_part {G : Hd.H} {l : List Int} {gw gh c : Nat} {sep : List Int} (hm : May G) (hl : Fits G l) (hg : G.w = (gw : Int)) (hN : l.length = gw * gh) (hkc : (G.kd = 1 ∧ c = 70 ∧ sep = []) ∨ (¬ G.kd = 1 ∧ c = 1 ∧ sep = [32])) {y k F : Nat} (hF : y * gw = F) (hy : y < gh) (hk : c * k < gw) :
    wAll G l (F + (c * k + min c (gw - c * k))) = wAll G l (F + c * k) ++ (joinI sep ((((l.drop (F + c * k)).take (min c (gw - c * k))).flatMap Pq.Px.smp).map Nu.decV) ++ [10]) := by
  have hmm := hm.m
  have hFN : F + gw ≤ l.length := by
    rw [hN, ← hF, Nat.mul_comm gw gh, ← Nat.succ_mul]; exact Nat.mul_le_mul_right _ hy
  rcases hkc with ⟨h1, rfl, rfl⟩ | ⟨h1, rfl, rfl⟩
  · obtain ⟨r, hr⟩ : ∃ r, min 70 (gw - 70 * k) = r + 1 := ⟨min 70 (gw - 70 * k) - 1, by omega⟩
    rw [hr]
    obtain ⟨i, hi⟩ : ∃ i, F + 70 * k = i := ⟨_, rfl⟩
    rw [← Nat.add_assoc, hi]
    have him : i % gw = 70 * k := by rw [← hi, ← hF, Nat.mul_comm y gw, Nat.mul_add_mod, Nat.mod_eq_of_lt hk]
    have hmid := part_mid (r := r + 1) hm hl h1 hg him (by omega) (by omega) (by omega) (by omega) r (by omega)
    have hgd := hl _ (getD_mem (show i + r < l.length by omega))
    have hx : (i + r) % gw = 70 * k + r := by
      rw [← hi, ← hF, Nat.mul_comm y gw, Nat.add_assoc, Nat.mul_add_mod, Nat.mod_eq_of_lt (by omega)]
    have hw : wLn G (i + r) = true := by
      rw [wLn_one h1 hg hx]
      rcases (show 70 * k + r + 1 = gw ∨ (70 * k + r) % 70 = 69 by omega) with h | h
      · simp [h]
      · simp [h]
    rw [← Nat.add_assoc, wAll_succ, hw, if_pos rfl, hmid, wTk_one hm h1 hgd, joinI_nil]
    have ht : (l.drop i).take (r + 1) = (l.drop i).take r ++ [l.getD (i + r) 0] := (take_part (by omega) rfl).symm
    rw [ht]
    simp
  · rw [show min 1 (gw - 1 * k) = 1 by omega, Nat.one_mul]
    obtain ⟨i, hi⟩ : ∃ i, F + k = i := ⟨_, rfl⟩
    rw [← Nat.add_assoc, hi]
    have hil : i < l.length := by omega
    have hgd := hl _ (getD_mem hil)
    have hw : wLn G i = true := by
      have h2 : 1 < G.kd := by omega
      simp [wLn, h2]
    have ht : (l.drop i).take 1 = [l.getD i 0] := by
      have := take_part (l := l) (i := i) (a := i) (r := 0) hil rfl
      simpa using this.symm
    rw [wAll_succ, hw, if_pos rfl, wTk_join hgd, ht]
    simp
end Pl
def u8c (xs : List Int) : List Value := Lib.strCells (strOfNums xs)
theorem u8c_app (a b : List Int) : u8c (a ++ b) = u8c a ++ u8c b := by simp [u8c, Lib.strCells, strOfNums]
theorem u8c_len (a : List Int) : (u8c a).length = a.length := by rw [u8c, Lib.strCells_length, strOfNums_size]
end Go.Proofs.Ytflpocnbmpdhiaa

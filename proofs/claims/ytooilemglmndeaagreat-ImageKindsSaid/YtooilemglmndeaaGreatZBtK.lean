/- A row of bits packed, over any memory, of bits. Condition: numbers fit their kinds. -/
import Derived.Test.YtooilemglmndeaaGreatZBtJ
import Derived.Test.YtooilemglmndeaaGreatZgAA
import Derived.Stop.RegionWithIn
import Derived.Laws.CopyOwn
namespace Go.Proofs.YtooilemglmndeaaGreat
open Go.RowKit Go.Shelf
attribute [local go_sem] Oper.semAt_some
set_option linter.unusedVariables false
/-- 'copy' into a row that is known whole, in a round. -/
theorem wpListIn_copy_row {F : Fence} {n : Nat} {P : Program} {w : World} {ops : Array Oper} {rest : List Oper} {o : Oper} {a : Act} {Q : Exit → Act → World → Prop} (hgd : o.guard = none) (d s : Operand) (dT sT : TypeId)
    (ho : o.op = .call { callee := .builtin .copy, args := #[d, s], argTypes := #[dT, sT] }) (elem : TypeId) (hu : P.underlying dT = some (.slice elem)) (hsz : (P.info? elem).map (·.size) = some 1)
    (g off dLen dCap : Nat) (ad : Addr) (sLen sCap : Nat) (hd : a.eval d = .slice (some ⟨g, off, none⟩) dLen dCap) (hs : a.eval s = .slice (some ad) sLen sCap)
    (cur : Array Value) (t : TypeId) (hg : w.heap[g]? = some (.cells cur t (0, 0))) (cs : List Value) (hn : cs.length = Nat.min sLen dLen)
    (hsrc : ∀ j v, cs[j]? = some v → w.cell? (ad.add j) = some v) (hfit : off + cs.length ≤ cur.size) (h1 : ∀ v ∈ cs, v.oneCell' = true)
    (h : ∀ v9, wpListIn F n P ops Q rest (a.put o.dst v9) (w.setRow g (cur.toList.take off ++ cs ++ cur.toList.drop (off + cs.length)).toArray)) : wpListIn F n P ops Q (o :: rest) a w := by
  refine wpListIn_plain hgd fun K hK => ?_
  have hrun := run_copy_row (P := P) w dT sT o.type elem g off dLen dCap ad sLen sCap cur t cs hu hsz hg hn hsrc hfit h1
  unfold Oper.wpIn
  refine ⟨?_, ?_⟩
  · simp [Oper.about, ho, resolve, Target.leads, Sem.run_pure]
  · rw [Oper.semAt_plain F _ _ (by rw [ho]; intro c hc'; cases hc')]
    simp [execOp, ho, resolve, invoke, builtin, hd, hs, hrun, Result.andThen]
    exact hK _ _ (by simpa using h (goInt cs.length))
namespace Bt
theorem pack_len0 (l : List Int) : packOk l = false ↔ (bytesV l.length = 0 ∨ decide (Ones l) = false) := by
  unfold packOk bytesV
  by_cases h : Ones l
  · simp [h]; omega
  · simp [h]
set_option maxRecDepth 100000 in
theorem pack_no (a : Option Addr) (n cap : Nat) (l : List Int) (w : World) (hn : n ≤ 9223372036854775807) (h : SlK .i64 w a n l) (hp : packOk l = false) :
    Calls Tryz.prog 191 #[.slice a n cap] w fun e w' => e = .returned (.tuple #[.slice none 0 0, .int .i64 1]) ∧ w = w' := by
  have hl : l.length = n := h.1
  have HC := Lib.hid (contains_any a n cap l w hn h)
  clear h
  rw [pack_len0, hl] at hp
  by_cases h0 : bytesV n = 0
  · have HN := Lib.hid h0
    clear hp h0
    refine calls_of_marks Tryz.func191 rfl ?_
    simp only [Tryz.ntmps191, List.size_toArray, List.length_cons, List.length_nil, Nat.reduceAdd, Nat.reduceSub, Array.replicate_succ, Array.replicate_zero, List.push_toArray, List.append_toArray, List.nil_append, List.cons_append]
    go_wp2_with (go_at_call 204; refine (bytes_any _ _).mono ?_; rw [HN.out]; rintro e w1 ⟨rfl, rfl⟩)
    exact ⟨_, results_tmp2 rfl _ _ _, rfl, rfl⟩
  · obtain ⟨r, hr⟩ : ∃ r, bytesV n = r := ⟨_, rfl⟩
    rw [hr] at h0 hp
    have hrb : (r == 0) = false := by simpa using h0
    have HN := Lib.hid hr
    have HO := Lib.hid (hp.resolve_left h0)
    clear hp h0 hr
    refine calls_of_marks Tryz.func191 rfl ?_
    simp only [Tryz.ntmps191, List.size_toArray, List.length_cons, List.length_nil, Nat.reduceAdd, Nat.reduceSub, Array.replicate_succ, Array.replicate_zero, List.push_toArray, List.append_toArray, List.nil_append, List.cons_append]
    go_wp2_with (first
      | (go_at_call 204; refine (bytes_any _ _).mono ?_; rw [HN.out]; rintro e w1 ⟨rfl, rfl⟩)
      | (go_at_call 205; refine HC.out.mono ?_; rw [HO.out]; rintro e w1 ⟨rfl, rfl⟩))
    exact ⟨_, results_tmp2 rfl _ _ _, rfl, rfl⟩
theorem ownsRow_room {A : World} {base n cap g k : Nat} {e : TypeId} {xs : List Value} (h : A.ownsRow base e 1 (.slice (some ⟨g, 0, none⟩) n cap) n xs) (hk : k < cap) : ∃ v, A.cell? ⟨g, k, none⟩ = some v ∧ A.frozen? ⟨g, k, none⟩ = false := by
  rcases h.2 with ⟨h2, _⟩ | ⟨g', cap', cur, h2, hg, hc, _, _, hs, _⟩
  · cases h2
  · cases h2
    exact ⟨cur[k]'(by omega), by simp [World.cell?, hc, Array.getElem?_eq_getElem (show k < cur.size by omega)], by simp [World.frozen?, hc]⟩
theorem ownsRow_push {A : World} {base n cap g : Nat} {e : TypeId} {xs : List Value} (h : A.ownsRow base e 1 (.slice (some ⟨g, 0, none⟩) n cap) n xs) (hn : n < cap) (v : Value) :
    (A.setCell ⟨g, n, none⟩ v).ownsRow base e 1 (.slice (some ⟨g, 0, none⟩) (n + 1) cap) (n + 1) (xs ++ [v]) := by
  obtain ⟨h1, h2⟩ := h
  rcases h2 with ⟨h2, _⟩ | ⟨g', cap', cur, h2, hg, hc, hle, hm, hs, ht⟩
  · cases h2
  · cases h2
    refine ⟨by simp at h1 ⊢; exact h1, .inr ⟨g, cap, cur.setIfInBounds n v, rfl, hg, ?_, hn, hm, by simpa using hs, ?_⟩⟩
    · rw [setCell_eq_setRow A g n cur e (0, 0) v hc]; exact setRow_heap _ _ _ _ _ _ hc
    · have hlt : n < cur.toList.length := by simp; omega
      simp only [Nat.mul_one, Array.toList_setIfInBounds] at ht ⊢
      rw [List.take_succ_eq_append_getElem (by simpa using hlt), List.getElem_set_self, List.take_set_of_le (Nat.le_refl _), ht]
theorem pad_cells (pt : List Int) (h : pt.length ≤ 8) : pt.map (Value.int .i64) ++ List.drop pt.length [Value.int .i64 0, Value.int .i64 0, Value.int .i64 0, Value.int .i64 0, Value.int .i64 0, Value.int .i64 0, Value.int .i64 0, Value.int .i64 0] = (pad pt).map (Value.int .i64) := by
  rw [show [Value.int .i64 0, Value.int .i64 0, Value.int .i64 0, Value.int .i64 0, Value.int .i64 0, Value.int .i64 0, Value.int .i64 0, Value.int .i64 0] = List.replicate 8 (Value.int .i64 0) from rfl, List.drop_replicate, pad]
  simp
theorem list8 (l : List Int) (h : l.length = 8) : ∃ a b c d e f g i, l = [a, b, c, d, e, f, g, i] := by
  match l, h with
  | [a, b, c, d, e, f, g, i], _ => exact ⟨a, b, c, d, e, f, g, i, rfl⟩
theorem pad_01 {pt : List Int} (h : Ones pt) : Ones (pad pt) := by
  intro x hx
  rcases List.mem_append.1 hx with hx | hx
  · exact h x hx
  · exact .inl (List.eq_of_mem_replicate hx)
theorem range_mid {m k : Nat} {pre rest : List Nat} (h : List.range m = pre ++ k :: rest) : k = pre.length ∧ pre.length < m := by
  have h1 : pre.length < m := by have := congrArg List.length h; simp at this; omega
  have h2 : (List.range m)[pre.length]? = some k := by rw [h]; simp
  rw [List.getElem?_range h1] at h2
  exact ⟨(Option.some.inj h2).symm, h1⟩
def PackR (l : List Int) (w : World) (e : Ending) (w' : World) : Prop :=
  ∃ ad cap, e = .returned (.tuple #[.slice ad (packV l).length cap, .int .i64 (packE l)]) ∧ w'.ownsRow w.heap.size 5 1 (.slice ad (packV l).length cap) (packV l).length ((packV l).map (Value.int .u8)) ∧ Below w.heap.size w w'
theorem Tryz.info_byt : (Tryz.prog.info? 5).map (fun i => (i.zero, i.size, i.bytes)) = some (some (.int .u8 0), 1, 1) := by kernel_rfl
theorem packB_len : ∀ (m : Nat) (l : List Int), l.length ≤ 8 * m → 8 * m < l.length + 8 → (packB l).length = m
  | 0, l, h, _ => by
    have : l = [] := List.eq_nil_of_length_eq_zero (by omega)
    rw [this, packB_nil]; rfl
  | m + 1, l, h, k => by
    rw [packB_more (by intro e; subst e; simp at k; omega), List.length_cons, packB_len m (l.drop 8) (by simp; omega) (by simp; omega)]
theorem packB_get : ∀ (k : Nat) (l : List Int), 8 * k < l.length → (packB l).getD k 0 = num (pad ((l.drop (8 * k)).take 8)) 0
  | 0, l, h => by rw [packB_more (by intro e; subst e; simp at h)]; simp
  | k + 1, l, h => by
    rw [packB_more (by intro e; subst e; simp at h), List.getD_cons_succ, packB_get k (l.drop 8) (by simp; omega), List.drop_drop]
    rw [show 8 + 8 * k = 8 * (k + 1) by omega]
set_option maxRecDepth 100000 in
set_option maxHeartbeats 4000000 in
theorem pack_yes (b o n m cap : Nat) (l : List Int) (w : World) (hnc : n ≤ cap) (hc : cap ≤ 9223372036854775807) (hl : l.length = n) (hcell : ∀ i, i < n → w.cell? ⟨b, o + i, none⟩ = some (.int .i64 (l.getD i 0))) (ho : Ones l) (h1 : 1 ≤ n) (h9 : n ≤ 4096) (hm : bytesV n = m) (hm1 : n ≤ 8 * m) (hm2 : 8 * m < n + 8) :
    Calls Tryz.prog 191 #[.slice (some ⟨b, o, none⟩) n cap] w fun e w' => ∃ ad cap, e = .returned (.tuple #[.slice ad m cap, .int .i64 0]) ∧ w'.ownsRow w.heap.size 5 1 (.slice ad m cap) m ((packB l).map (Value.int .u8)) ∧ Below w.heap.size w w' := by
  obtain ⟨i0, hi, hz0, hz1, hz2⟩ := info_parts Tryz.info_byt
  have HC := Lib.hid (contains_any (some ⟨b, o, none⟩) n cap l w (by omega) ⟨hl, .inr ⟨b, o, rfl, hcell⟩⟩)
  have HO := Lib.hid (show decide (Ones l) = true by rw [decide_eq_true_iff]; exact ho)
  have HN := Lib.hid hm
  have HP := Lib.hid (packB_len m l (by omega) (by omega))
  have HG := Lib.hid (fun k (h : 8 * k < n) => packB_get k l (by omega))
  have HL := Lib.hid hl
  have HS := Lib.hid hcell
  have HB := Lib.hid ho
  have hm0 : ((m : Int) == 0) = false := by simp; omega
  have hbw : b < w.heap.size := block_lt_of_cell (hcell 0 (by omega))
  clear hl hcell ho hm
  refine calls_of_marks Tryz.func191 rfl ?_
  simp only [Tryz.ntmps191, List.size_toArray, List.length_cons, List.length_nil, Nat.reduceAdd, Nat.reduceSub, Array.replicate_succ, Array.replicate_zero, List.push_toArray, List.append_toArray, List.nil_append, List.cons_append]
  go_wp2_with (first
    | (go_at_call 204; refine (bytes_any _ _).mono ?_; rw [HN.out]; rintro e w1 ⟨rfl, rfl⟩)
    | (go_at_call 205; refine HC.out.mono ?_; rw [HO.out]; rintro e w1 ⟨rfl, rfl⟩)
    | (at_make; refine wpList_make_own _ rfl _ _ 22 rfl w.heap.size 5 i0 (.int .u8 0) 1 Tryz.underlying22 hi hz0 hz1 .i64 .i64 (m : Int) m rfl rfl rfl (by rw [hz2]; omega) (by unfold maxLen; omega) (Nat.le_refl _) ?_; intro w1 hown hgrow; have hb1 : Below w.heap.size w w1 := (Below.refl _ w).grown hgrow (Nat.le_refl _) (by simp); have HW := Lib.hid hown; clear hown)
    | (go_at_call 206; refine (chunk_made _ _ _ _).mono ?_; rintro e w2 ⟨nb, bb, rfl, hne, l1, l2, cn, cb, hb⟩))
  simp only [World.size_alloc] at l1 l2
  have hs1 := hb1.size
  have hs2 := hb.size
  have ln : nb < w2.heap.size := block_lt_of_cell cn
  have lb : bb < w2.heap.size := block_lt_of_cell cb
  have hg1 : w.heap.size < w1.heap.size := (ownsRow_blk HW.out).2
  obtain ⟨B, hB⟩ : ∃ B, w1.heap.size = B := ⟨_, rfl⟩
  have hv0 : Boxed w2 B 22 (.slice (some ⟨w.heap.size, 0, none⟩) 0 m) := by rw [← hB]; exact (hb.block _ (by simp)).trans (Boxed.new w1 _ _)
  have hr0 : w2.ownsRow w.heap.size 5 1 (.slice (some ⟨w.heap.size, 0, none⟩) 0 m) 0 [] := ownsRow_same (HW.out.alloc _) (hb.block _ (by simp; omega))
  have hbel : Below w.heap.size w w2 := (hb1.alloc (by omega) _).trans (hb.mono (by simp; omega))
  rw [hB]
  rw [hB] at l1 l2 hg1
  simp only [World.size_alloc, hB] at hs2
  have hzB : ¬ ((B = nb ∨ B = bb) ∨ B = w2.heap.size ∨ B = w2.heap.size + 1) := by omega
  have hzg : ¬ ((w.heap.size = nb ∨ w.heap.size = bb) ∨ w.heap.size = w2.heap.size ∨ w.heap.size = w2.heap.size + 1) := by omega
  have hGV := chunk_gives n m cap b o nb bb h1 hm1 hm2 hnc hc h9 hne w2 2 (by omega) cn cb
  clear hb hB hb1 HW cn cb
  refine range_wp (gf := 216) (lb := #[.pointer (some ⟨nb, 0, none⟩), .pointer (some ⟨bb, 0, none⟩)]) rfl (enters_of Tryz.func216 (by kernel_rfl) rfl)
    hGV (by rintro k (rfl | rfl) <;> assumption) (fun _ => rfl)
    (fun pre W' => Boxed W' B 22 (.slice (some ⟨w.heap.size, 0, none⟩) pre.length m) ∧ W'.ownsRow w.heap.size 5 1 (.slice (some ⟨w.heap.size, 0, none⟩) pre.length m) pre.length (((packB l).take pre.length).map (Value.int .u8)) ∧ Below w.heap.size w W')
    (fun _ _ _ => False) ?hI (fun _ _ _ _ hh _ => hh) ⟨hv0, by simpa using hr0, hbel⟩ ?_ ?assign ?body ?done ?stop
  case hI =>
    rintro p A B' ⟨h1, h2, h4⟩ hs
    refine ⟨boxed_sep h1 hs hzB, ownsRow_same h2 (hs.block _ (ownsRow_blk h2).2 hzg), ?_⟩
    exact h4.trans (hs.below h4.size (by intro k hk; omega))
  case assign =>
    intro l x W K hK
    unfold encC
    gi_wp2
    exact hK
  case body =>
    rintro ll pre k rest W' hx hlt ⟨hv, hrow, hB⟩
    obtain ⟨rfl, hkm⟩ := range_mid hx
    obtain ⟨k, hkk⟩ : ∃ k, pre.length = k := ⟨_, rfl⟩
    rw [hkk] at hv hrow hkm ⊢
    have HK := Lib.hid hkk
    clear hx hkk hv0 hr0
    have hk8 : 8 * k < n := by omega
    obtain ⟨pt, hpt⟩ : ∃ pt, (l.drop (8 * k)).take 8 = pt := ⟨_, rfl⟩
    have hptl : pt.length = partLen n k := by rw [← hpt, List.length_take, List.length_drop, HL.out]; unfold partLen; rfl
    have hptg : ∀ i, i < pt.length → pt.getD i 0 = l.getD (8 * k + i) 0 := fun i hi => by
      have : i < 8 := by rw [hptl] at hi; unfold partLen at hi; omega
      rw [← hpt, List.getD_eq_getElem?_getD, List.getElem?_take_of_lt this, List.getElem?_drop, ← List.getD_eq_getElem?_getD]
    have hpto : Ones pt := fun x hx => HB.out x (List.mem_of_mem_drop (List.mem_of_mem_take (hpt ▸ hx)))
    have hgk := HG.out k hk8
    rw [hpt] at hgk
    have hp1 : 1 ≤ partLen n k := by unfold partLen; omega
    have hp8 : partLen n k ≤ 8 := by unfold partLen; omega
    have hin : 8 * k + partLen n k ≤ n := by unfold partLen; omega
    obtain ⟨p, hpp⟩ : ∃ p, partLen n k = p := ⟨_, rfl⟩
    rw [hpp] at hptl hp1 hp8 hin ⊢
    clear hpt hpp
    have hvc := hv.cell
    have hs5 := hB.size
    have hsrc : ∀ j v, (pt.map (Value.int .i64))[j]? = some v → ∀ W6, Below w.heap.size w W6 → W6.cell? ((⟨b, o + 8 * k, none⟩ : Addr).add j) = some v := fun j v hv W6 hB6 => by
      have hj : j < pt.length := by have := (List.getElem?_eq_some_iff.1 hv).1; simpa using this
      rw [Addr.add_lit, Nat.add_assoc]
      refine cell_later hB6 ?_
      rw [HS.out (8 * k + j) (by omega), ← hptg j hj]
      rw [List.getElem?_map, List.getElem?_eq_getElem hj] at hv
      rw [← hv, List.getD_eq_getElem?_getD, List.getElem?_eq_getElem hj]; rfl
    have HSRC := Lib.hid hsrc
    have HPT := Lib.hid hptl
    clear hsrc hptg hptl
    gi_wp2_with (with_reducible refine wpListIn_copy_row rfl _ _ 25 25 rfl 3 Tryz.underlying25 (by kernel_rfl) W'.heap.size 0 8 8 ⟨b, o + 8 * k, none⟩ p p rfl rfl #[.int .i64 0, .int .i64 0, .int .i64 0, .int .i64 0, .int .i64 0, .int .i64 0, .int .i64 0, .int .i64 0] 275 (World.alloc_heap_new _ _) (pt.map (Value.int .i64)) (by rw [List.length_map, HPT.out]; exact (Nat.min_eq_left hp8).symm) (fun j v hv => HSRC.out j v hv _ (hB.alloc (by omega) _)) (by rw [List.length_map, HPT.out]; simp; omega) (ints_oneCell _ _) ?_; intro v9)
    go_simp
    rw [pad_cells pt (by rw [HPT.out]; exact hp8)]
    have hpd := pad_01 hpto
    obtain ⟨q7, q6, q5, q4, q3, q2, q1, q0, hq⟩ := list8 (pad pt) (pad_len pt (by rw [HPT.out]; exact hp8))
    rw [hq] at hpd hgk ⊢
    have f7 := hpd q7 (by simp)
    have f6 := hpd q6 (by simp)
    have f5 := hpd q5 (by simp)
    have f4 := hpd q4 (by simp)
    have f3 := hpd q3 (by simp)
    have f2 := hpd q2 (by simp)
    have f1 := hpd q1 (by simp)
    have f0 := hpd q0 (by simp)
    simp only [List.map_cons, List.map_nil]
    obtain ⟨E, hE⟩ : ∃ E, W'.heap.size = E := ⟨_, rfl⟩
    obtain ⟨W6, hW6⟩ : ∃ W6, (W'.alloc (.cells #[.int .i64 0, .int .i64 0, .int .i64 0, .int .i64 0, .int .i64 0, .int .i64 0, .int .i64 0, .int .i64 0] 275)).setRow W'.heap.size #[.int .i64 q7, .int .i64 q6, .int .i64 q5, .int .i64 q4, .int .i64 q3, .int .i64 q2, .int .i64 q1, .int .i64 q0] = W6 := ⟨_, rfl⟩
    have hq6 : W6.heap[E]? = some (.cells #[.int .i64 q7, .int .i64 q6, .int .i64 q5, .int .i64 q4, .int .i64 q3, .int .i64 q2, .int .i64 q1, .int .i64 q0] 275 (0, 0)) := by
      rw [← hW6, ← hE]; exact setRow_heap _ _ _ _ _ _ (World.alloc_heap_new _ _)
    have hb6 : Below W'.heap.size W' W6 := by rw [← hW6]; exact below_setRow ((Below.refl _ _).alloc (Nat.le_refl _) _) (Nat.le_refl _) _
    have hs6 : W6.heap.size = E + 1 := by rw [← hW6, ← hE]; simp
    have hv6 : Boxed W6 B 22 (.slice (some ⟨w.heap.size, 0, none⟩) k m) := (hb6.block _ hv.lt).trans hv
    have hr6 := ownsRow_same hrow (hb6.block _ (ownsRow_blk hrow).2)
    have hB6 := hB.trans (hb6.mono (by omega))
    have hh6 : Hold (fun k => (k = nb ∨ k = bb) ∨ k = w2.heap.size ∨ k = w2.heap.size + 1) W' W6 := Hold.below hb6 (by intro k hk; omega)
    rw [hW6, hE]
    have hlE : w2.heap.size + 1 < E := by omega
    clear hW6 hb6 hpd hq hv hvc hrow hB
    have hvc := hv6.cell
    have hvf := hv6.frozen
    have hBE : ¬ B = E := by omega
    have e0 : W6.cell? ⟨E, 0, none⟩ = some (.int .i64 q7) := by simp [World.cell?, hq6]
    have e1 : W6.cell? ⟨E, 1, none⟩ = some (.int .i64 q6) := by simp [World.cell?, hq6]
    have e2 : W6.cell? ⟨E, 2, none⟩ = some (.int .i64 q5) := by simp [World.cell?, hq6]
    have e3 : W6.cell? ⟨E, 3, none⟩ = some (.int .i64 q4) := by simp [World.cell?, hq6]
    have e4 : W6.cell? ⟨E, 4, none⟩ = some (.int .i64 q3) := by simp [World.cell?, hq6]
    have e5 : W6.cell? ⟨E, 5, none⟩ = some (.int .i64 q2) := by simp [World.cell?, hq6]
    have e6 : W6.cell? ⟨E, 6, none⟩ = some (.int .i64 q1) := by simp [World.cell?, hq6]
    have e7 : W6.cell? ⟨E, 7, none⟩ = some (.int .i64 q0) := by simp [World.cell?, hq6]
    obtain ⟨v0, gc, gf⟩ := ownsRow_room hr6 hkm
    have hGE : ¬ w.heap.size = E := by omega
    have hGB : ¬ w.heap.size = B := by omega
    have hBG : ¬ B = w.heap.size := by omega
    have hk1 : k + 1 ≤ m := by omega
    have HJ := Lib.hid (fun W => join_any q7 q6 q5 q4 q3 q2 q1 q0 (by omega) (by omega) (by omega) (by omega) (by omega) (by omega) (by omega) (by omega) (by omega) (by omega) (by omega) (by omega) (by omega) (by omega) (by omega) (by omega) W)
    obtain ⟨y, hy⟩ : ∃ y, num [q7, q6, q5, q4, q3, q2, q1, q0] 0 = y := ⟨_, rfl⟩
    rw [hy] at HJ hgk
    have HGK := Lib.hid hgk
    clear f7 f6 f5 f4 f3 f2 f1 f0 hq6 hy hgk hpto hE
    have hlen : (pre ++ [k]).length = k + 1 := by simp [HK.out]
    have htk : ((packB l).take k).map (Value.int .u8) ++ [.int .u8 y] = ((packB l).take (k + 1)).map (Value.int .u8) := by
      rw [← take_next (packB l) k (by rw [HP.out]; exact hkm), HGK.out]; simp
    have HLEN := Lib.hid hlen
    have HTK := Lib.hid htk
    clear hlen htk
    gi_wp2
    gi_region_with (first | (refine ⟨trivial, ?_⟩; gi_at_call 207; refine (((callsIn_wide (n := _)).2 (HJ.out _)).inRound ll).mono ?_; rintro e w7 ⟨rfl, hb7⟩; have c7 := cell_later hb7 gc; have f7 := (hb7.frozen (p := ⟨w.heap.size, k, none⟩) (block_lt_of_cell gc)).trans gf; have c8 := cell_later hb7 hvc; have f8 := (hb7.frozen (p := ⟨B, 0, none⟩) (block_lt_of_cell hvc)).trans hvf; have l7 := block_lt_of_cell c7; have l8 := block_lt_of_cell c8))
    all_goals
      have hb8 : Below W6.heap.size W6 w7 := (show Below W6.heap.size W6 W6.drew from ⟨rfl, rfl, rfl, Nat.le_refl _, fun _ _ => rfl⟩).trans hb7
      have hv7 : Boxed w7 B 22 (.slice (some ⟨w.heap.size, 0, none⟩) k m) := (hb8.block _ hv6.lt).trans hv6
      have hr8 := ownsRow_push (ownsRow_same hr6 (hb8.block _ (ownsRow_blk hr6).2)) hkm (.int .u8 y)
      rw [HTK.out] at hr8
      have hv8 : Boxed (w7.setCell ⟨w.heap.size, k, none⟩ (.int .u8 y)) B 22 (.slice (some ⟨w.heap.size, 0, none⟩) k m) := (Below.heap_setCell _ _ _ _ (by simpa using hBG)).trans hv7
      have hr9 := ((hr8.kept (grownBy_setCell' _ B (.slice (some ⟨w.heap.size, 0, none⟩) (k + 1) m)) (.inr (by simpa [Value.ownBlock] using hGB))).alloc (.cells #[.int .u8 y] 5))
      have hv9 := ((hv8.set (.slice (some ⟨w.heap.size, 0, none⟩) (k + 1) m)).alloc (.cells #[.int .u8 y] 5))
      have hBf : Below w.heap.size w (((w7.setCell ⟨w.heap.size, k, none⟩ (.int .u8 y)).setCell ⟨B, 0, none⟩ (.slice (some ⟨w.heap.size, 0, none⟩) (k + 1) m)).alloc (.cells #[.int .u8 y] 5)) :=
        (((hB6.trans (hb8.mono (by omega))).setCell (p := ⟨w.heap.size, k, none⟩) (Nat.le_refl _) _).setCell (p := ⟨B, 0, none⟩) (by show _ ≤ B; omega) _).alloc (by simp [World.setCell]; omega) _
      have hhf := ((((hh6.trans (Hold.below hb8 (by intro k hk; omega))).trans (.setCell (b := w.heap.size) (o := k) (p := none) _ hzg (.int .u8 y))).trans (.setCell (b := B) (o := 0) (p := none) _ hzB (.slice (some ⟨w.heap.size, 0, none⟩) (k + 1) m))).trans (.alloc _ _ (.cells #[.int .u8 y] 5)))
      clear hb7 c7 f7 c8 f8 l7 l8 hb8 hv7 hv8 hr8
      gi_wp2
      refine ⟨hhf, ?_, ?_, hBf⟩
      · rw [HLEN.out]; exact hv9
      · rw [HLEN.out]; exact hr9
  case done =>
    rintro W' ⟨hv, hrow, hB⟩ hK
    have hvc := hv.cell
    rw [List.length_range, List.take_of_length_le (by rw [HP.out]; omega)] at hrow
    rw [List.length_range] at hvc
    have HR := Lib.hid hrow
    clear hv0 hr0 hv hrow
    go_wp2
    refine ret_mark hK (results_tmp2 rfl _ _ _) ?_
    have hlK : w2.heap.size < W'.heap.size := (Array.getElem?_eq_some_iff.1 hK).1
    exact ⟨some ⟨w.heap.size, 0, none⟩, m, rfl, ownsRow_same HR.out (World.putObj_heap_other (by omega)), Below.putObj hB (by omega) _⟩
  case stop =>
    rintro c pre W _ hh _
    exact hh.elim
theorem bytesV_len {n : Nat} (h1 : 1 ≤ n) (h2 : n ≤ 4096) : ∃ m : Nat, bytesV n = m ∧ n ≤ 8 * m ∧ 8 * m < n + 8 := by
  unfold bytesV
  rw [if_neg (by omega)]
  exact ⟨(n + 7) / 8, by omega, by omega, by omega⟩
theorem pack_any (a : Option Addr) (n cap : Nat) (l : List Int) (w : World) (hnc : n ≤ cap) (hc : cap ≤ 9223372036854775807) (h : SlK .i64 w a n l) :
    Calls Tryz.prog 191 #[.slice a n cap] w (PackR l w) := by
  have hl : l.length = n := h.1
  cases hp : packOk l
  · refine (pack_no a n cap l w (by omega) h hp).mono ?_
    rintro e w' ⟨rfl, rfl⟩
    unfold PackR packV packE
    rw [hp]
    exact ⟨none, 0, rfl, World.ownsRow_nil _ _ _ _, Below.refl _ _⟩
  · have hq := hp
    unfold packOk at hq
    simp only [Bool.and_eq_true, decide_eq_true_eq] at hq
    obtain ⟨⟨h1, h2⟩, ho⟩ := hq
    obtain ⟨m, hm, hm1, hm2⟩ := bytesV_len (n := n) (by omega) (by omega)
    rcases h.2 with h0 | ⟨b, o, rfl, hs⟩
    · omega
    · refine (pack_yes b o n m cap l w hnc hc hl hs ho (by omega) (by omega) hm hm1 hm2).mono ?_
      rintro e w' ⟨ad, c, rfl, hr, hb⟩
      have hpl := packB_len m l (by omega) (by omega)
      unfold PackR packV packE
      simp only [hp, if_true]
      exact ⟨ad, c, by rw [hpl], by rw [hpl]; exact hr, hb⟩
end Bt
end Go.Proofs.YtooilemglmndeaaGreat

/- What a law of layer 4 starts from: a matrix made of any, with naturals; what is handed over as it is. Condition: numbers fit their kinds. -/
import Derived.Test.YtmlinoanpcbflaaZgAC
import Derived.Test.YtmlinoanpcbflaaZTurJ
import Derived.Test.YtmlinoanpcbflaaZgAB
namespace Go.Proofs.Ytmlinoanpcbflaa
open Go.RowKit
set_option linter.unusedVariables false
/-- what is known of a matrix that Good makes -/
def Mk (most W H : Nat) (L : List Int) : Prop := 1 ≤ W ∧ W ≤ most ∧ 1 ≤ H ∧ H ≤ most ∧ L.length = W * H
theorem mk_of (W H most : Int) (hm : 0 < most) (hm8 : most ≤ 8) (zs : List Int) : ∃ (p q : Nat) (L : List Int), goodW W most = p ∧ goodW H most = q ∧ goodM W H most zs = L ∧ Mk most.toNat p q L := by
  obtain ⟨x0, x1⟩ := Ar.around_lt W most hm
  obtain ⟨y0, y1⟩ := Ar.around_lt H most hm
  refine ⟨(goodW W most).toNat, (goodW H most).toNat, _, ?_, ?_, rfl, ?_⟩
  · unfold goodW; omega
  · unfold goodW; omega
  · refine ⟨by unfold goodW; omega, by unfold goodW; omega, by unfold goodW; omega, by unfold goodW; omega, ?_⟩
    unfold goodM goodW
    rw [goodL_len, Nat.mul_comm]
theorem mk_ok {most W H : Nat} {L : List Int} (h : Mk most W H L) (hm : most ≤ 8) : Rc.Ok W H L := ok_of h.1 (by have := h.2.1; omega) h.2.2.1 (by have := h.2.2.2.1; omega) h.2.2.2.2
theorem mk_sized {most W H g : Nat} {L : List Int} (h : Mk most W H L) (hm : most ≤ 8) : Rc.sized (Tu.sw g W H : Nat) (Tu.sw g H W : Nat) = true := by
  obtain ⟨a1, a2, a3, a4, a5⟩ := h
  have h1 : W * H ≤ 8 * 8 := Nat.mul_le_mul (by omega) (by omega)
  have e : ((W * H : Nat) : Int) = (W : Int) * H := Int.natCast_mul ..
  have e2 : ((H * W : Nat) : Int) = (H : Int) * W := Int.natCast_mul ..
  have e3 := Nat.mul_comm W H
  rw [Rc.sized_iff]; unfold Tu.sw; split <;> omega
theorem mk_lay {most W H g : Nat} {L : List Int} (h : Mk most W H L) (hg : g < 8) : Mk most (Tu.sw g W H) (Tu.sw g H W) (Tu.layL g W H L) := by
  obtain ⟨a1, a2, a3, a4, a5⟩ := h
  refine ⟨?_, ?_, ?_, ?_, ?_⟩
  · unfold Tu.sw; split <;> omega
  · unfold Tu.sw; split <;> omega
  · unfold Tu.sw; split <;> omega
  · unfold Tu.sw; split <;> omega
  · rw [Tu.layL_len]; unfold Tu.sw; split
    · exact Nat.mul_comm ..
    · rfl
theorem mk_n {most W H : Nat} {L : List Int} (h : Mk most W H L) (hm : most ≤ 8) : W * H ≤ 64 := by
  obtain ⟨a1, a2, a3, a4, a5⟩ := h
  have h1 : W * H ≤ 8 * 8 := Nat.mul_le_mul (by omega) (by omega)
  exact h1
/-- a matrix that Good made, laid by the code -/
theorem layG {most W H g : Nat} {L : List Int} {n : Nat} (h : Mk most W H L) (hm : most ≤ 8) (hg : g < 8) (hn : W * H = n) (a : Option Addr) (c : Nat) (hc : n ≤ c) (hc2 : c ≤ 9223372036854775807) (w : World) (hs : SlK .u64 w a n L) :
    Calls Try.prog 66 #[.agg #[.int .i64 W, .int .i64 H, .slice a n c], .int .i64 g] w fun e w' => ∃ gb, e = .returned (.tuple #[.agg #[.int .i64 (Tu.sw g W H : Nat), .int .i64 (Tu.sw g H W : Nat), .slice (some ⟨gb, 0, none⟩) n n], .int .i64 0]) ∧ OwnG w.heap.size w' gb (Tu.layL g W H L) ∧ Below w.heap.size w w' := by
  have hl : L.length = n := h.2.2.2.2.trans hn
  have := turnLay_yes W H g a c L hg (mk_ok h hm) (by rw [hl]; exact hc) hc2 (mk_sized h hm) w (by rw [hl]; exact hs)
  rw [hl, hn] at this
  exact this
end Go.Proofs.Ytmlinoanpcbflaa

/- Where in a list of matrices the first one is that is the same as one: turn's closure in add, slices.IndexFunc over it; over any memory. Condition: the list's matrices, and their numbers, lie in memory. -/
namespace Go.Proofs.Ytmlinoanpcbflaa
open Go.RowKit
set_option linter.unusedVariables false

namespace Tu
/-- the first one below k, or -1 -/
def firstI (p : Nat → Bool) (k : Nat) : Int := match (List.range k).find? p with | some i => (i : Int) | none => -1
theorem find_range {p : Nat → Bool} : ∀ {k j : Nat}, j < k → (∀ i, i < j → p i = false) → p j = true → (List.range k).find? p = some j
  | 0, j, h, _, _ => absurd h (Nat.not_lt_zero _)
  | k + 1, j, h, h1, h2 => by
    rw [List.range_succ, List.find?_append]
    rcases Nat.lt_or_ge j k with hjk | hjk
    · rw [find_range hjk h1 h2]; rfl
    · obtain rfl : j = k := by omega
      have : (List.range j).find? p = none := by
        rw [List.find?_eq_none]
        intro x hx
        rw [h1 x (List.mem_range.1 hx)]; exact Bool.false_ne_true
      rw [this]
      simp [h2]
theorem firstI_hit {p : Nat → Bool} {k j : Nat} (h : j < k) (h1 : ∀ i, i < j → p i = false) (h2 : p j = true) : firstI p k = j := by
  unfold firstI; rw [find_range h h1 h2]
theorem firstI_miss {p : Nat → Bool} {k : Nat} (h1 : ∀ i, i < k → p i = false) : firstI p k = -1 := by
  unfold firstI
  have : (List.range k).find? p = none := by
    rw [List.find?_eq_none]
    intro x hx
    rw [h1 x (List.mem_range.1 hx)]; exact Bool.false_ne_true
  rw [this]
/-- are two matrices the same? -/
def eqM (P Q P2 Q2 : Nat) (L M : List Int) : Bool := decide ((P : Int) = P2) && (decide ((Q : Int) = Q2) && decide (L = M))
end Tu
set_option maxHeartbeats 2000000 in
theorem clo_any (P Q P2 Q2 g g2 n lb : Nat) (L M : List Int) (hn : n ≤ 9223372036854775807) (w : World) (hF : Sb w lb 34 (.int .i64 P2) (.int .i64 Q2) (.slice (some ⟨g2, 0, none⟩) n n)) (h1 : SlK .u64 w (some ⟨g, 0, none⟩) n L) (h2 : SlK .u64 w (some ⟨g2, 0, none⟩) n M) :
    Calls Try.prog 67 #[.agg #[.int .i64 P, .int .i64 Q, .slice (some ⟨g, 0, none⟩) n n], .pointer (some ⟨lb, 0, none⟩)] w fun e w' => e = .returned (.bool (Tu.eqM P Q P2 Q2 L M)) ∧ Below w.heap.size w w' := by
  obtain ⟨c0, c1, c2⟩ := hF.cells
  have hlt := hF.lt
  have B := box1 w (.cells #[.int .i64 P, .int .i64 Q, .slice (some ⟨g, 0, none⟩) n n] 34)
  have hS := Lib.hid (same_any P Q P2 Q2 (some ⟨g, 0, none⟩) (some ⟨g2, 0, none⟩) n n n n L M (w.alloc (.cells #[.int .i64 P, .int .i64 Q, .slice (some ⟨g, 0, none⟩) n n] 34)) hn (h1.below B) (h2.below B))
  clear h1 h2 hF
  go_enter Try.func67, Try.ntmps67
  go_wp2_with (go_at_call 54; refine hS.out.mono ?_; rintro e w1 ⟨rfl, hb⟩; replace B := bel_step B hb)
  go_ret
  exact ⟨rfl, B⟩
set_option maxRecDepth 100000 in
set_option maxHeartbeats 4000000 in
/-- slices.IndexFunc of a list of k matrices -/
theorem index_any (k b cap n lb g2 P2 Q2 : Nat) (P Q G : Nat → Nat) (Ls : Nat → List Int) (M : List Int) (hk : k ≤ 9223372036854775807) (hn : n ≤ 9223372036854775807) (w : World) (hF : Sb w lb 34 (.int .i64 P2) (.int .i64 Q2) (.slice (some ⟨g2, 0, none⟩) n n)) (h2 : SlK .u64 w (some ⟨g2, 0, none⟩) n M)
    (hc : ∀ i, i < k → w.cell? ⟨b, i * 3, none⟩ = some (.int .i64 (P i)) ∧ w.cell? ⟨b, i * 3 + 1, none⟩ = some (.int .i64 (Q i)) ∧ w.cell? ⟨b, i * 3 + 2, none⟩ = some (.slice (some ⟨G i, 0, none⟩) n n)) (hs : ∀ i, i < k → SlK .u64 w (some ⟨G i, 0, none⟩) n (Ls i)) :
    Calls Try.prog 68 #[.slice (some ⟨b, 0, none⟩) k cap, .func (.func 67) #[] #[.pointer (some ⟨lb, 0, none⟩)]] w fun e w' => e = .returned (.int .i64 (Tu.firstI (fun i => Tu.eqM (P i) (Q i) P2 Q2 (Ls i) M) k)) ∧ Below w.heap.size w w' := by
  have HF := Lib.hid hF
  have H2 := Lib.hid h2
  have HC := Lib.hid hc
  have HS := Lib.hid hs
  have en := enters_of Try.func67 (by kernel_rfl) rfl
  clear hF h2 hc hs
  go_enter Try.func68, Try.ntmps68
  go_wp2
  go_loopg [8] k (fun gg s8 wr => ∃ j : Nat, j + gg = k ∧ s8 = .int .i64 j ∧ Below w.heap.size w wr ∧ Hid (∀ i, i < j → Tu.eqM (P i) (Q i) P2 Q2 (Ls i) M = false))
  case atStart => exact ⟨0, by omega, rfl, Below.refl _ _, fun i hi => absurd hi (Nat.not_lt_zero _)⟩
  case round =>
    obtain ⟨j, hj, rfl, hB, hA⟩ := hrel
    cases gk with
    | zero =>
      obtain rfl : j = k := by omega
      have hlt : ¬ (j : Int) < j := by omega
      have HR := Lib.hid (Tu.firstI_miss hA.out)
      go_wp2
      go_ret
      exact ⟨Ar.ret_i HR.out.symm, hB⟩
    | succ gg =>
      have hlt : (j : Int) < (k : Int) := by omega
      have hjk : j < k := by omega
      obtain ⟨q0, q1, q2⟩ := HC.out j hjk
      have q0' := cell_later hB q0
      have q1' := cell_later hB q1
      have q2' := cell_later hB q2
      have hsj := (HS.out j hjk).below hB
      obtain ⟨e, he⟩ : ∃ e, Tu.eqM (P j) (Q j) P2 Q2 (Ls j) M = e := ⟨_, rfl⟩
      have HCL := Lib.hid (clo_any (P j) (Q j) P2 Q2 (G j) g2 n lb (Ls j) M hn wr (HF.out.later hB) hsj (H2.out.below hB))
      rw [he] at HCL
      have HE := Lib.hid he
      obtain ⟨p', hp'⟩ : ∃ p', P j = p' := ⟨_, rfl⟩
      obtain ⟨r', hr'⟩ : ∃ r', Q j = r' := ⟨_, rfl⟩
      obtain ⟨g', hg'⟩ : ∃ g', G j = g' := ⟨_, rfl⟩
      rw [hp', hr', hg'] at HCL
      rw [hp'] at q0'
      rw [hr'] at q1'
      rw [hg'] at q2'
      clear q0 q1 q2 hsj he hp' hr' hg'
      cases e with
      | true =>
        have HR := Lib.hid (Tu.firstI_hit hjk hA.out HE.out)
        go_wp2_with fail
        refine HCL.out.mono ?_
        rintro e w9 ⟨rfl, hb9⟩
        have hB9 := hB.trans (hb9.mono hB.size)
        go_wp2
        go_ret
        exact ⟨Ar.ret_i HR.out.symm, hB9⟩
      | false =>
        go_wp2_with fail
        refine HCL.out.mono ?_
        rintro e w9 ⟨rfl, hb9⟩
        have hB9 := hB.trans (hb9.mono hB.size)
        go_wp2
        go_roundg gg
        case measure => omega
        case rel =>
          refine ⟨j + 1, by omega, by go_num, hB9, fun i hi => ?_⟩
          rcases Nat.lt_or_ge i j with h | h
          · exact hA.out i h
          · obtain rfl : i = j := by omega
            exact HE.out
end Go.Proofs.Ytmlinoanpcbflaa

/- The list with a matrix in it, laid by a turn, and its place there: what turn's add comes to, over any memory. Condition: the matrix may be, and be laid so; the list is short, and the call's own. -/
namespace Go.Proofs.Ytmlinoanpcbflaa
open Go.RowKit
set_option linter.unusedVariables false

/-- a matrix in a list: how wide and high, the block of its numbers, the numbers -/
def Ent : Type := Nat × Nat × Nat × List Int
def mkEnt (p q g : Nat) (L : List Int) : Ent := (p, q, g, L)
def Ent.cs (n : Nat) (e : Ent) : List Value := [.int .i64 (e.1 : Nat), .int .i64 (e.2.1 : Nat), .slice (some ⟨e.2.2.1, 0, none⟩) n n]
def ents (n : Nat) (es : List Ent) : List Value := es.flatMap (Ent.cs n)
def Ent.key (e : Ent) : Nat × Nat × List Int := (e.1, e.2.1, e.2.2.2)
theorem ents_len (n : Nat) : ∀ es : List Ent, (ents n es).length = es.length * 3
  | [] => rfl
  | e :: es => by
    have := ents_len n es
    simp only [ents, List.flatMap_cons, List.length_append, List.length_cons] at this ⊢
    rw [this]; simp [Ent.cs]; omega
theorem ents_get (n : Nat) : ∀ (es : List Ent) (i : Nat) (e : Ent), es[i]? = some e → (ents n es)[i * 3]? = some (.int .i64 (e.1 : Nat)) ∧ (ents n es)[i * 3 + 1]? = some (.int .i64 (e.2.1 : Nat)) ∧ (ents n es)[i * 3 + 2]? = some (.slice (some ⟨e.2.2.1, 0, none⟩) n n)
  | [], i, e, h => by simp at h
  | x :: es, 0, e, h => by
    simp at h; subst h
    simp [ents, Ent.cs]
  | x :: es, i + 1, e, h => by
    have := ents_get n es i e (by simpa using h)
    simp only [ents, List.flatMap_cons] at this ⊢
    rw [show (i + 1) * 3 = i * 3 + 3 by omega, show i * 3 + 3 + 1 = (i * 3 + 1) + 3 by omega, show i * 3 + 3 + 2 = (i * 3 + 2) + 3 by omega]
    simpa [Ent.cs] using this
/-- the numbers of each lie in memory of the call's own -/
def Lie (n : Nat) (w : World) (es : List Ent) : Prop := ∀ e ∈ es, OwnG 0 w e.2.2.1 e.2.2.2 ∧ e.2.2.2.length = n
theorem Lie.later {n : Nat} {w w' : World} {es : List Ent} (h : Lie n w es) (hb : Below w.heap.size w w') : Lie n w' es := fun e he => ⟨(h e he).1.later hb, (h e he).2⟩
theorem px_ne_mt : 23 ≠ 34 := by decide
theorem OwnG.grown {n base g : Nat} {w w' : World} {L : List Int} {v : Value} {xs : List Value} (h : OwnG 0 w g L) (hrow : w.ownsRow base 34 3 v n xs) (hg : w.grownBy w' v.ownBlock) : OwnG 0 w' g L := by
  refine ⟨Nat.zero_le _, ?_⟩
  rw [hg.block g h.lt ?_]
  · exact h.2
  · intro e
    rcases hrow.2 with ⟨hv, _⟩ | ⟨j, cap, cur, hv, _, hj, _⟩
    · rw [hv] at e; exact absurd e (by simp [Value.ownBlock])
    · rw [hv] at e
      have e' : g = j := by simpa [Value.ownBlock] using e
      rw [← e', h.2] at hj
      injection hj with hj
      injection hj with _ ht _
      exact px_ne_mt ht
theorem Lie.grown {n base k : Nat} {w w' : World} {es : List Ent} {v : Value} {xs : List Value} (h : Lie n w es) (hrow : w.ownsRow base 34 3 v k xs) (hg : w.grownBy w' v.ownBlock) : Lie n w' es := fun e he => ⟨(h e he).1.grown hrow hg, (h e he).2⟩
theorem grown_below {w w' : World} {r : Option Nat} (hb : Below w.heap.size w w') : w.grownBy w' r := ⟨hb.os, hb.tape, hb.output, hb.size, fun j hj _ => hb.block j hj⟩
theorem grown_trans {w w1 w2 : World} {r : Option Nat} (hb : Below w.heap.size w w1) (hg : w1.grownBy w2 r) : w.grownBy w2 r :=
  ⟨hg.os.trans hb.os, hg.tape.trans hb.tape, hg.output.trans hb.output, Nat.le_trans hb.size hg.size, fun j hj hne => (hg.block j (Nat.lt_of_lt_of_le hj hb.size) hne).trans (hb.block j hj)⟩
namespace Tu
def isKey (t e : Nat × Nat × List Int) : Bool := eqM e.1 e.2.1 t.1 t.2.1 e.2.2 t.2.2
def placeK (ks : List (Nat × Nat × List Int)) (t : Nat × Nat × List Int) : Int := firstI (fun i => match ks[i]? with | some e => isKey t e | none => false) ks.length
end Tu
theorem firstI_congr {p q : Nat → Bool} {k : Nat} (h : ∀ i, i < k → p i = q i) : Tu.firstI p k = Tu.firstI q k := by
  unfold Tu.firstI
  have : ∀ l : List Nat, (∀ i ∈ l, i < k) → l.find? p = l.find? q := by
    intro l
    induction l with
    | nil => intro _; rfl
    | cons x l ih =>
      intro hl
      rw [List.find?_cons, List.find?_cons, h x (hl x (List.mem_cons_self ..)), ih (fun i hi => hl i (List.mem_cons_of_mem _ hi))]
  rw [this _ (fun i hi => List.mem_range.1 hi)]
theorem Try.info_mt : (Try.prog.info? 34).map (fun i => (i.zero, i.size, i.bytes)) = some (some (.agg #[.int .i64 0, .int .i64 0, .slice none 0 0]), 3, 40) := by kernel_rfl
theorem three_new (w : World) (t : TypeId) (x y z : Value) : ∀ j u, [x, y, z][j]? = some u → (w.alloc (.cells #[x, y, z] t)).cell? ((⟨w.heap.size, 0, none⟩ : Addr).add j) = some u := by
  intro j u h
  have hj : j < 3 := by have := (List.getElem?_eq_some_iff.1 h).1; simpa using this
  have : j = 0 ∨ j = 1 ∨ j = 2 := by omega
  rcases this with rfl | rfl | rfl <;> (simp at h; subst h; simp [go_sem])
set_option maxHeartbeats 1000000 in
theorem index0_any (ad : Option Addr) (cap : Nat) (f : Value) (w : World) :
    Calls Try.prog 68 #[.slice ad 0 cap, f] w fun e w' => e = .returned (.int .i64 (-1)) ∧ Below w.heap.size w w' := by
  go_enter Try.func68, Try.ntmps68
  go_wp2
  refine wp_loop_rounds 1 ?_
  rw [rounds_succ]
  go_wp2
  go_ret
  exact ⟨rfl, Below.refl _ _⟩
/-- slices.IndexFunc over a list of entries -/
theorem index_ents (es : List Ent) (n lb g2 P2 Q2 base : Nat) (v : Value) (M : List Int) (hk : es.length ≤ 9223372036854775807) (hn : n ≤ 9223372036854775807) (w : World) (hF : Sb w lb 34 (.int .i64 P2) (.int .i64 Q2) (.slice (some ⟨g2, 0, none⟩) n n)) (h2 : SlK .u64 w (some ⟨g2, 0, none⟩) n M)
    (hrow : w.ownsRow base 34 3 v es.length (ents n es)) (hl : Lie n w es) :
    Calls Try.prog 68 #[v, .func (.func 67) #[] #[.pointer (some ⟨lb, 0, none⟩)]] w fun e w' => e = .returned (.int .i64 (Tu.placeK (es.map Ent.key) (P2, Q2, M))) ∧ Below w.heap.size w w' := by
  obtain ⟨ad, cap, rfl⟩ := ownsRow_val hrow
  rcases Nat.eq_zero_or_pos es.length with h0 | h0
  · have e0 : es = [] := List.eq_nil_of_length_eq_zero h0
    subst e0
    exact index0_any ad cap _ w
  · obtain ⟨g, cap', hv⟩ := ownsRow_pos hrow h0
    injection hv with h3 h4 h5
    subst h3 h5
    have hget : ∀ i, i < es.length → ∃ e, es[i]? = some e := fun i hi => ⟨es[i], List.getElem?_eq_getElem hi⟩
    have := index_any es.length g cap n lb g2 P2 Q2 (fun i => ((es[i]?).getD (0, 0, 0, [])).1) (fun i => ((es[i]?).getD (0, 0, 0, [])).2.1) (fun i => ((es[i]?).getD (0, 0, 0, [])).2.2.1) (fun i => ((es[i]?).getD (0, 0, 0, [])).2.2.2) M hk hn w hF h2
      (fun i hi => by
        obtain ⟨e, he⟩ := hget i hi
        obtain ⟨q0, q1, q2⟩ := ents_get n es i e he
        simp only [he]
        exact ⟨by rw [hrow.cellAt _ (by omega), q0]; rfl, by rw [hrow.cellAt _ (by omega), q1]; rfl, by rw [hrow.cellAt _ (by omega), q2]; rfl⟩)
      (fun i hi => by
        obtain ⟨e, he⟩ := hget i hi
        obtain ⟨o1, o2⟩ := hl e (List.mem_of_getElem? he)
        simp only [he]
        exact ownG_len o1 o2)
    refine this.mono fun e w' ⟨h1, h2⟩ => ⟨?_, h2⟩
    rw [h1]
    unfold Tu.placeK
    rw [List.length_map]
    congr 2
    refine firstI_congr fun i hi => ?_
    obtain ⟨e, he⟩ := hget i hi
    simp only [List.getElem?_map, he, Option.map_some]
    rfl
end Go.Proofs.Ytmlinoanpcbflaa

/- The list with a matrix in it, laid by a turn, and its place there: what turn's add comes to, over any memory. Condition: the matrix may be, and be laid so; the list is short, and the call's own. -/
namespace Go.Proofs.Ytmlinoanpcbflaa
open Go.RowKit
set_option linter.unusedVariables false

theorem ret_vi {v v' : Value} {a b : Int} (h : v = v') (k : a = b) : Ending.returned (.tuple #[v, .int .i64 a]) = .returned (.tuple #[v', .int .i64 b]) := by rw [h, k]
set_option maxRecDepth 100000 in
set_option maxHeartbeats 8000000 in
/-- it can be laid so: what Lay comes to is handed over -/
theorem add_yes (es : List Ent) (n base : Nat) (v : Value) (W H g P Q : Nat) (T : List Int) (a : Option Addr) (c : Nat) (hn : n ≤ 16777216) (hT : T.length = n) (hk8 : es.length ≤ 8) (w : World) (hbase : base ≤ w.heap.size)
    (hrow : w.ownsRow base 34 3 v es.length (ents n es)) (hl : Lie n w es)
    (hLay : ∀ w2, Below w.heap.size w w2 → Calls Try.prog 66 #[.agg #[.int .i64 W, .int .i64 H, .slice a n c], .int .i64 g] w2 fun e w' => ∃ gb, e = .returned (.tuple #[.agg #[.int .i64 P, .int .i64 Q, .slice (some ⟨gb, 0, none⟩) n n], .int .i64 0]) ∧ OwnG w2.heap.size w' gb T ∧ Below w2.heap.size w2 w') :
    Calls Try.prog 53 #[v, .agg #[.int .i64 W, .int .i64 H, .slice a n c], .int .i64 g] w fun e w' =>
      ∃ (v' : Value) (es' : List Ent), e = .returned (.tuple #[v', .int .i64 (if Tu.placeK (es.map Ent.key) (P, Q, T) < 0 then (es.length : Int) else Tu.placeK (es.map Ent.key) (P, Q, T))]) ∧ es'.map Ent.key = (if Tu.placeK (es.map Ent.key) (P, Q, T) < 0 then es.map Ent.key ++ [(P, Q, T)] else es.map Ent.key) ∧
        w'.ownsRow base 34 3 v' es'.length (ents n es') ∧ Lie n w' es' ∧ w.grownBy w' v.ownBlock := by
  have B := box1 w (.cells #[.int .i64 W, .int .i64 H, .slice a n c] 34)
  have HL := Lib.hid (hLay _ B)
  have HROW := Lib.hid hrow
  have HLIE := Lib.hid hl
  have HTN := Lib.hid hT
  obtain ⟨ad, cap, hv⟩ := ownsRow_val hrow
  subst hv
  obtain ⟨i0, hi, hz0, hz1, hz2⟩ := info_parts Try.info_mt
  obtain ⟨pl, hpl⟩ : ∃ pl, Tu.placeK (es.map Ent.key) (P, Q, T) = pl := ⟨_, rfl⟩
  have HPL := Lib.hid hpl
  obtain ⟨k, hk⟩ : ∃ k, es.length = k := ⟨_, rfl⟩
  have HK := Lib.hid hk
  rw [hpl, hk]
  rw [hk] at hk8 HROW
  obtain ⟨r, hr⟩ : ∃ r, (if pl < 0 then (k : Int) else pl) = r := ⟨_, rfl⟩
  obtain ⟨ks, hks⟩ : ∃ ks, (if pl < 0 then es.map Ent.key ++ [(P, Q, T)] else es.map Ent.key) = ks := ⟨_, rfl⟩
  rw [hr, hks]
  have HR := Lib.hid hr
  have HKS := Lib.hid hks
  clear hpl hLay hrow hl hT hk hr hks
  go_enter Try.func53, Try.ntmps53
  go_wp2_with fail
  refine HL.out.mono ?_
  rintro e w1 ⟨gb, rfl, oo, hb1⟩
  replace B := bel_step B hb1
  have hb := box1 w1 (.cells #[.int .i64 P, .int .i64 Q, .slice (some ⟨gb, 0, none⟩) n n] 34)
  have F := Sb.new w1 34 (.int .i64 P) (.int .i64 Q) (.slice (some ⟨gb, 0, none⟩) n n)
  have O := (OwnG.later oo hb).mono (Nat.zero_le _)
  replace B := bel_step B hb
  obtain ⟨V1, hV1⟩ : ∃ V, w1.alloc (.cells #[.int .i64 P, .int .i64 Q, .slice (some ⟨gb, 0, none⟩) n n] 34) = V := ⟨_, rfl⟩
  rw [hV1] at B F O
  have HX := Lib.hid (index_ents es n w1.heap.size gb P Q base (.slice ad k cap) T (by rw [HK.out]; omega) (by omega) V1 F (ownG_len O HTN.out) (by rw [HK.out]; exact ownsRow_later HROW.out B) (HLIE.out.later B))
  rw [HPL.out] at HX
  have HB := Lib.hid B
  have HF := Lib.hid F
  have HO := Lib.hid O
  clear B F O hb hb1 oo
  go_wp2_with fail
  refine HX.out.mono ?_
  rintro e w2 ⟨rfl, hb2⟩
  have B2 := bel_step HB.out hb2
  have HB2 := Lib.hid B2
  have F2 := HF.out.later hb2
  have O2 := HO.out.later hb2
  obtain ⟨c0, c1, c2⟩ := F2.cells
  have HF2 := Lib.hid F2
  have HO2 := Lib.hid O2
  have hsz2 : base ≤ w2.heap.size := Nat.le_trans hbase B2.size
  clear hV1 B2 F2 O2 hb2
  by_cases hneg : pl < 0
  · have hge : ¬ (0 : Int) ≤ pl := by omega
    have hr := HR.out
    have hks := HKS.out
    rw [if_pos hneg] at hr hks
    have HR2 := Lib.hid hr
    have HKS2 := Lib.hid hks
    clear hneg hr hks
    have hrow2 := ownsRow_later HROW.out HB2.out
    have hrow3 := hrow2.alloc (.cells #[.int .i64 P, .int .i64 Q, .slice (some ⟨gb, 0, none⟩) n n] 34)
    go_wp2_with (at_builtin; refine wpList_append_own _ rfl _ _ 92 rfl base 34 i0 (.agg #[.int .i64 0, .int .i64 0, .slice none 0 0]) 3 40 Try.underlying92 hi hz0 hz1 hz2 rfl (by decide) _ k (ents n es) rfl hrow3 ⟨w2.heap.size, 0, none⟩ 1 1 [.int .i64 P, .int .i64 Q, .slice (some ⟨gb, 0, none⟩) n n] rfl rfl (three_new _ _ _ _ _) (by simp [Value.oneCell']) (by unfold maxLen; omega) (by omega) (by simp; omega) ?_; intro v' w3 hown' hgrow' hnil)
    have hgr : w2.grownBy w3 (Value.slice ad k cap).ownBlock := grown_trans (box1 w2 _) hgrow'
    have hgrA : w.grownBy w3 (Value.slice ad k cap).ownBlock := grown_trans HB2.out hgr
    have hlie := Lie.grown (HLIE.out.later HB2.out) (ownsRow_later HROW.out HB2.out) hgr
    have hO3 := HO2.out.grown (ownsRow_later HROW.out HB2.out) hgr
    go_ret2
    refine ⟨v', es ++ [mkEnt P Q gb T], ret_vi rfl HR2.out, ?_, ?_, ?_, hgrA⟩
    · rw [List.map_append, ← HKS2.out]; rfl
    · rw [List.length_append, HK.out, show ents n (es ++ [mkEnt P Q gb T]) = ents n es ++ [.int .i64 P, .int .i64 Q, .slice (some ⟨gb, 0, none⟩) n n] from by unfold ents; rw [List.flatMap_append]; rfl]
      exact hown'
    · intro e he
      rcases List.mem_append.1 he with h | h
      · exact hlie e h
      · obtain rfl := List.mem_singleton.1 h
        exact ⟨hO3, HTN.out⟩
  · have hge : (0 : Int) ≤ pl := by omega
    have hr := HR.out
    have hks := HKS.out
    rw [if_neg hneg] at hr hks
    have HR2 := Lib.hid hr
    have HKS2 := Lib.hid hks
    clear hneg hr hks
    go_wp2
    go_ret2
    refine ⟨_, es, ret_vi rfl HR2.out, HKS2.out, ?_, HLIE.out.later HB2.out, grown_below HB2.out⟩
    rw [HK.out]
    exact ownsRow_later HROW.out HB2.out
end Go.Proofs.Ytmlinoanpcbflaa

/- All ways to lay a matrix that are not the same, as a plain function; rows of ints in blocks; a matrix that can't be laid, in turn's add. Condition: as said at each. -/
namespace Go.Proofs.Ytmlinoanpcbflaa
open Go.RowKit
set_option linter.unusedVariables false

/-- ints in a block, known whole -/
def OwnI (w : World) (b : Nat) (ty : TypeId) (L : List Int) : Prop := w.heap[b]? = some (.cells (L.map (Value.int .i64)).toArray ty (0, 0))
section
variable {w w' : World} {b : Nat} {ty : TypeId} {L : List Int}
theorem OwnI.lt (h : OwnI w b ty L) : b < w.heap.size := (Array.getElem?_eq_some_iff.1 h).1
theorem OwnI.cell (h : OwnI w b ty L) {i : Nat} (hi : i < L.length) : w.cell? ⟨b, i, none⟩ = some (.int .i64 (L.getD i 0)) := by
  have h' : w.heap[b]? = _ := h
  simp [World.cell?, h', List.getD_eq_getElem?_getD, List.getElem?_eq_getElem hi]
theorem OwnI.fr (h : OwnI w b ty L) (k : Nat) : w.frozen? ⟨b, k, none⟩ = false := by
  have h' : w.heap[b]? = _ := h
  simp [World.frozen?, h']
theorem OwnI.later (h : OwnI w b ty L) (hb : Below w.heap.size w w') : OwnI w' b ty L := (hb.block b h.lt).trans h
theorem OwnI.put (h : OwnI w b ty L) (k : Nat) (v : Int) : OwnI (w.setCell ⟨b, k, none⟩ (.int .i64 v)) b ty (L.set k v) := by
  unfold OwnI
  rw [Go.heap_setCell_same w b k _ _ _ h]
  simp [List.map_set]
theorem OwnI.set (h : OwnI w b ty L) (a : Addr) (y : Value) (hne : b ≠ a.block) : OwnI (w.setCell a y) b ty L := heapSet w a y h hne
theorem OwnI.alloc (h : OwnI w b ty L) (o : Obj) : OwnI (w.alloc o) b ty L := heapOld w o h
theorem OwnI.grown {n base : Nat} {v : Value} {xs : List Value} {e : TypeId} {size : Nat} (h : OwnI w b ty L) (hlt : b < base) (hrow : w.ownsRow base e size v n xs) (hg : w.grownBy w' v.ownBlock) : OwnI w' b ty L := by
  unfold OwnI
  rw [hg.block b h.lt (fun he => by have := (hrow.lt b he.symm).1; omega)]
  exact h
end
theorem Sb.grown {w w' : World} {b n base : Nat} {t e : TypeId} {size : Nat} {u v x V : Value} {xs : List Value} (h : Sb w b t u v x) (hlt : b < base) (hrow : w.ownsRow base e size V n xs) (hg : w.grownBy w' V.ownBlock) : Sb w' b t u v x := by
  unfold Sb
  rw [hg.block b h.lt (fun he => by have := (hrow.lt b he.symm).1; omega)]
  exact h
theorem Lie.set {n b : Nat} {w : World} {ty : TypeId} {L : List Int} {es : List Ent} (h : Lie n w es) (hb : OwnI w b ty L) (hty : ty ≠ 23) (k : Nat) (y : Value) : Lie n (w.setCell ⟨b, k, none⟩ y) es := fun e he => by
  obtain ⟨h1, h2⟩ := h e he
  refine ⟨h1.set _ y ?_, h2⟩
  intro e'
  have hb' : w.heap[b]? = _ := hb
  have e2 : e.2.2.1 = b := e'
  have := h1.2
  rw [e2, hb'] at this
  injection this with this
  injection this with _ ht _
  exact hty ht
namespace Tu
def keyOf (W H : Nat) (L : List Int) (g : Nat) : Option (Nat × Nat × List Int) := if Rc.sized (sw g W H : Nat) (sw g H W : Nat) = true then some (sw g W H, sw g H W, layL g W H L) else none
def addK (ks : List (Nat × Nat × List Int)) : Option (Nat × Nat × List Int) → List (Nat × Nat × List Int) × Int
  | none => (ks, -1)
  | some t => if placeK ks t < 0 then (ks ++ [t], (ks.length : Int)) else (ks, placeK ks t)
def stepO (W H : Nat) (L : List Int) (ks : List (Nat × Nat × List Int)) (t : Int) : List (Nat × Nat × List Int) × Int := if isT t = true then addK ks (keyOf W H L t.toNat) else (ks, -1)
def orbO (W H : Nat) (L : List Int) (ts : List Int) : List (Nat × Nat × List Int) × List Int := ts.foldl (fun s t => ((stepO W H L s.1 t).1, s.2 ++ [(stepO W H L s.1 t).2])) ([], [])
theorem orb_more (W H : Nat) (L ts : List Int) (t : Int) : orbO W H L (ts ++ [t]) = ((stepO W H L (orbO W H L ts).1 t).1, (orbO W H L ts).2 ++ [(stepO W H L (orbO W H L ts).1 t).2]) := by
  unfold orbO; rw [List.foldl_append]; rfl
theorem orb_take (W H : Nat) (L ts : List Int) {i : Nat} (hi : i < ts.length) : orbO W H L (ts.take (i + 1)) = ((stepO W H L (orbO W H L (ts.take i)).1 (ts.getD i 0)).1, (orbO W H L (ts.take i)).2 ++ [(stepO W H L (orbO W H L (ts.take i)).1 (ts.getD i 0)).2]) := by
  rw [List.take_add_one, List.getElem?_eq_getElem hi]
  have : ts.getD i 0 = ts[i] := by rw [List.getD_eq_getElem?_getD, List.getElem?_eq_getElem hi]; rfl
  rw [this]
  exact orb_more ..
theorem addK_len (ks : List (Nat × Nat × List Int)) (o : Option (Nat × Nat × List Int)) : (addK ks o).1.length ≤ ks.length + 1 := by
  cases o with
  | none => simp [addK]
  | some t => simp only [addK]; split <;> simp
theorem firstI_neg {p : Nat → Bool} {k : Nat} (h : firstI p k < 0) : ∀ i, i < k → p i = false := by
  intro i hi
  cases e : p i with
  | false => rfl
  | true =>
    exfalso
    unfold firstI at h
    cases hf : (List.range k).find? p with
    | none =>
      rw [List.find?_eq_none] at hf
      exact hf i (List.mem_range.2 hi) e
    | some j => rw [hf] at h; simp at h; omega
theorem find_first (p : Nat → Bool) (i : Nat) {k : Nat} (hi : i < k) (e : p i = true) : ∃ m, (List.range k).find? p = some m ∧ m ≤ i := by
  have hx : ∃ m, m ≤ i ∧ p m = true ∧ ∀ j, j < m → p j = false := by
    clear hi
    induction i using Nat.strongRecOn with
    | ind i ih =>
      by_cases hall : ∀ j, j < i → p j = false
      · exact ⟨i, Nat.le_refl _, e, hall⟩
      · have : ∃ j, j < i ∧ p j = true := by
          apply Classical.byContradiction
          intro hno
          apply hall
          intro j hj
          cases ej : p j with
          | false => rfl
          | true => exact absurd ⟨j, hj, ej⟩ hno
        obtain ⟨j, hj, ej⟩ := this
        obtain ⟨m, h1, h2, h3⟩ := ih j hj ej
        exact ⟨m, by omega, h2, h3⟩
  obtain ⟨m, h1, h2, h3⟩ := hx
  exact ⟨m, find_range (by omega) h3 h2, h1⟩
theorem firstI_some {p : Nat → Bool} {k : Nat} {j : Int} (h : firstI p k = j) (h0 : 0 ≤ j) : ∃ n : Nat, j = n ∧ n < k ∧ p n = true ∧ ∀ i, i < n → p i = false := by
  unfold firstI at h
  cases hf : (List.range k).find? p with
  | none => rw [hf] at h; simp at h; omega
  | some n =>
    rw [hf] at h
    refine ⟨n, h.symm, List.mem_range.1 (List.mem_of_find?_eq_some hf), List.find?_some hf, fun i hi => ?_⟩
    cases e : p i with
    | false => rfl
    | true =>
      exfalso
      have hn := List.mem_range.1 (List.mem_of_find?_eq_some hf)
      have := find_first p i (by omega : i < k) e
      obtain ⟨m, hm, hm2⟩ := this
      rw [hf] at hm
      injection hm with hm
      omega
theorem place_more {ks : List (Nat × Nat × List Int)} {t x : Nat × Nat × List Int} (h : 0 ≤ placeK ks t) : placeK (ks ++ [x]) t = placeK ks t := by
  obtain ⟨n, h1, h2, h3, h4⟩ := firstI_some (rfl : placeK ks t = _) h
  rw [h1]
  refine firstI_hit (by rw [List.length_append]; omega) (fun i hi => ?_) ?_
  · rw [List.getElem?_append_left (by omega)]; exact h4 i hi
  · rw [List.getElem?_append_left h2]; exact h3
theorem key_self (t : Nat × Nat × List Int) : isKey t t = true := by simp [isKey, eqM]
theorem place_new {ks : List (Nat × Nat × List Int)} {t : Nat × Nat × List Int} (h : placeK ks t < 0) : placeK (ks ++ [t]) t = ks.length := by
  have h1 := firstI_neg h
  refine firstI_hit (by rw [List.length_append]; simp) (fun i hi => ?_) ?_
  · rw [List.getElem?_append_left hi]; exact h1 i hi
  · rw [List.getElem?_append_right (Nat.le_refl _)]; simp [key_self]
/-- what is known of each turn -/
def Known (W H : Nat) (L : List Int) (ks : List (Nat × Nat × List Int)) (kn : List Int) : Prop := kn.length = 8 ∧ ∀ g, g < 8 → kn.getD g 0 = -1 ∨ (0 ≤ kn.getD g 0 ∧ ∃ t, keyOf W H L g = some t ∧ placeK ks t = kn.getD g 0)
theorem addK_place (ks : List (Nat × Nat × List Int)) (t : Nat × Nat × List Int) : 0 ≤ (addK ks (some t)).2 ∧ placeK (addK ks (some t)).1 t = (addK ks (some t)).2 := by
  simp only [addK]
  by_cases h : placeK ks t < 0
  · rw [if_pos h]; exact ⟨by simp, place_new h⟩
  · rw [if_neg h]; exact ⟨by simpa using h, rfl⟩
theorem addK_keep {ks : List (Nat × Nat × List Int)} {o : Option (Nat × Nat × List Int)} {t : Nat × Nat × List Int} (h : 0 ≤ placeK ks t) : placeK (addK ks o).1 t = placeK ks t := by
  cases o with
  | none => rfl
  | some x =>
    simp only [addK]
    split
    · exact place_more h
    · rfl
theorem known_set {W H : Nat} {L : List Int} {ks : List (Nat × Nat × List Int)} {kn : List Int} (h : Known W H L ks kn) {g : Nat} (hg : g < 8) : Known W H L (addK ks (keyOf W H L g)).1 (kn.set g (addK ks (keyOf W H L g)).2) := by
  obtain ⟨h1, h2⟩ := h
  refine ⟨by rw [List.length_set]; exact h1, fun i hi => ?_⟩
  by_cases e : i = g
  · subst e
    have e1 : (kn.set i (addK ks (keyOf W H L i)).2).getD i 0 = (addK ks (keyOf W H L i)).2 := by
      rw [List.getD_eq_getElem?_getD, List.getElem?_set_self (by omega)]; rfl
    rw [e1]
    cases hk : keyOf W H L i with
    | none => exact .inl rfl
    | some t => exact .inr ⟨(addK_place ks t).1, t, rfl, (addK_place ks t).2⟩
  · have e1 : (kn.set g (addK ks (keyOf W H L g)).2).getD i 0 = kn.getD i 0 := by
      rw [List.getD_eq_getElem?_getD, List.getElem?_set_ne (Ne.symm e), List.getD_eq_getElem?_getD]
    rw [e1]
    rcases h2 i hi with h | ⟨h3, t, h4, h5⟩
    · exact .inl h
    · exact .inr ⟨h3, t, h4, by rw [addK_keep (by rw [h5]; exact h3), h5]⟩
theorem known_hit {W H : Nat} {L : List Int} {ks : List (Nat × Nat × List Int)} {kn : List Int} (h : Known W H L ks kn) {g : Nat} (hg : g < 8) (hne : ¬ kn.getD g 0 = -1) : addK ks (keyOf W H L g) = (ks, kn.getD g 0) := by
  rcases h.2 g hg with h1 | ⟨h1, t, h2, h3⟩
  · exact absurd h1 hne
  · rw [h2]; simp only [addK]; rw [if_neg (by omega), h3]
end Tu
set_option maxHeartbeats 2000000 in
/-- it can't be laid so -/
theorem add_no (v : Value) (W H g : Nat) (n : Nat) (a : Option Addr) (c : Nat) (w : World)
    (hLay : ∀ w2, Below w.heap.size w w2 → Calls Try.prog 66 #[.agg #[.int .i64 W, .int .i64 H, .slice a n c], .int .i64 g] w2 fun e w' => e = .returned (.tuple #[.agg #[.int .i64 0, .int .i64 0, .slice none 0 0], .int .i64 4]) ∧ Below w2.heap.size w2 w') :
    Calls Try.prog 53 #[v, .agg #[.int .i64 W, .int .i64 H, .slice a n c], .int .i64 g] w fun e w' => e = .returned (.tuple #[v, .int .i64 (-1)]) ∧ Below w.heap.size w w' := by
  have B := box1 w (.cells #[.int .i64 W, .int .i64 H, .slice a n c] 34)
  have HL := Lib.hid (hLay _ B)
  clear hLay
  go_enter Try.func53, Try.ntmps53
  go_wp2_with fail
  refine HL.out.mono ?_
  rintro e w1 ⟨rfl, hb1⟩
  replace B := bel_step B hb1
  go_wp2
  go_ret2
  exact ⟨rfl, B.alloc B.size _⟩
end Go.Proofs.Ytmlinoanpcbflaa

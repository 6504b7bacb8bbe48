/- Whether, and where, a matrix stands in another one, by the program. Condition: both may be. -/
import Derived.Test.YtooilemglmndeaaGreatZRecH
import Derived.Deep.DeepCutAuto
import Derived.Deep.CutRange
import Derived.Test.YtooilemglmndeaaGreatZQPixA
import Derived.Test.YtooilemglmndeaaGreatZgAA
import Derived.Test.YtooilemglmndeaaGreatZTokC
import Derived.Deep.RegionHeld3
import Derived.Lib.Hide
import Derived.Test.YtooilemglmndeaaGreatZBtD
import Derived.Deep.QuietTactic
import Derived.BigQuiet
import Derived.Deep.LoopGhost
import Derived.Test.YtooilemglmndeaaGreatZHedK
import Derived.Lib.ConvBytes
import Derived.Laws.AppendOwn
import Derived.Laws.StructEq
import Derived.ChangeKeysEq
import Derived.KernelRfl
namespace Go.Proofs.YtooilemglmndeaaGreat
open Go.RowKit
set_option linter.unusedVariables false

theorem ownsRow_val {w : World} {base size n : Nat} {e : TypeId} {v : Value} {xs : List Value} (h : w.ownsRow base e size v n xs) : ∃ ad cap, v = .slice ad n cap := by
  rcases h.2 with ⟨rfl, rfl⟩ | ⟨g, cap, cur, rfl, _⟩
  · exact ⟨_, _, rfl⟩
  · exact ⟨_, _, rfl⟩
set_option maxRecDepth 100000 in
set_option maxHeartbeats 4000000 in
theorem find_any (W H w0 h0 : Int) (a a2 : Option Addr) (c c2 : Nat) (L M : List Int) (hL : Rc.Ok W H L) (hM : Rc.Ok w0 h0 M) (hc : L.length ≤ c) (hcm : c ≤ 9223372036854775807) (hd : M.length ≤ c2) (hdm : c2 ≤ 9223372036854775807) (w : World)
    (hs : SlK .u64 w a L.length L) (hs2 : SlK .u64 w a2 M.length M) :
    Calls Tryz.prog 77 #[.agg #[.int .i64 W, .int .i64 H, .slice a L.length c], .agg #[.int .i64 w0, .int .i64 h0, .slice a2 M.length c2]] w fun e w' =>
      ∃ v, e = .returned v ∧ w'.ownsRow w.heap.size 73 2 v (Rc.findV W H L w0 h0 M).length (pairs (Rc.findV W H L w0 h0 M)) ∧ Below w.heap.size w w' := by
  obtain ⟨b, off, rfl, hcell⟩ := slk_pos hs (ok_pos hL)
  obtain ⟨b2, off2, rfl, hcell2⟩ := slk_pos hs2 (ok_pos hM)
  have hlen := ok_len hL
  have hlen2 := ok_len hM
  obtain ⟨a1, a2, a3, a4⟩ : 1 ≤ W ∧ W ≤ 4096 ∧ 1 ≤ H ∧ H ≤ 65536 := ⟨hL.1, hL.2.1, hL.2.2.1, hL.2.2.2.1⟩
  obtain ⟨b1, b2', b3, b4⟩ : 1 ≤ w0 ∧ w0 ≤ 4096 ∧ 1 ≤ h0 ∧ h0 ≤ 65536 := ⟨hM.1, hM.2.1, hM.2.2.1, hM.2.2.2.1⟩
  rw [Rc.find_eq hL hM]
  have hM0 := Lib.hid (fun W2 => may_any W H (some ⟨b, off, none⟩) L.length c (by omega) W2)
  have hM1 := Lib.hid (fun W2 => may_any w0 h0 (some ⟨b2, off2, none⟩) M.length c2 (by omega) W2)
  rw [Rc.ok_may hM] at hM1
  rw [Rc.ok_may hL] at hM0
  have B := box2 w (.cells #[.int .i64 W, .int .i64 H, .slice (some ⟨b, off, none⟩) L.length c] 44) (.cells #[.int .i64 w0, .int .i64 h0, .slice (some ⟨b2, off2, none⟩) M.length c2] 44)
  have D : Mb ((w.alloc (.cells #[.int .i64 W, .int .i64 H, .slice (some ⟨b, off, none⟩) L.length c] 44)).alloc (.cells #[.int .i64 w0, .int .i64 h0, .slice (some ⟨b2, off2, none⟩) M.length c2] 44)) w.heap.size W H (some ⟨b, off, none⟩) L.length c := by refine ⟨?_, ?_, ?_⟩ <;> simp [go_sem]
  have E : Mb ((w.alloc (.cells #[.int .i64 W, .int .i64 H, .slice (some ⟨b, off, none⟩) L.length c] 44)).alloc (.cells #[.int .i64 w0, .int .i64 h0, .slice (some ⟨b2, off2, none⟩) M.length c2] 44)) (w.heap.size + 1) w0 h0 (some ⟨b2, off2, none⟩) M.length c2 := by refine ⟨?_, ?_, ?_⟩ <;> simp [go_sem]
  have HD := Lib.hid D
  have HE := Lib.hid E
  have HCL := Lib.hid hcell
  have HCL2 := Lib.hid hcell2
  have hSe := Lib.hid (fun W2 h1 h2 => search_any W H w0 h0 0 0 (W - w0) (H - h0) b off c b2 off2 c2 (W - w0 + 1).toNat (H - h0 + 1).toNat L M hL hM hc hcm hd hdm ⟨by omega, by omega⟩ ⟨by omega, by omega⟩ (by omega) (by omega) (fun i hi => by rw [Rc.insV_iff]; omega) (fun j hj => by rw [Rc.insV_iff]; omega) W2 h1 h2)
  obtain ⟨G, hG⟩ : ∃ G, Rc.searchV L W w0 h0 M 0 0 (W - w0 + 1).toNat (H - h0 + 1).toNat = G := ⟨_, rfl⟩
  rw [hG] at hSe ⊢
  obtain ⟨p, hp⟩ : ∃ p, W - w0 = p := ⟨_, rfl⟩
  obtain ⟨q, hq⟩ : ∃ q, H - h0 = q := ⟨_, rfl⟩
  rw [hp] at hSe
  rw [hq] at hSe
  have e1 : wrap64 (W - w0) = p := by rw [hp, IntWalk.wrap64_in] <;> omega
  have e2 : wrap64 (H - h0) = q := by rw [hq, IntWalk.wrap64_in] <;> omega
  clear D E hs hs2 hcell hcell2 hL hM hG hp hq a1 a2 a3 a4 b1 b2' b3 b4
  go_enter Tryz.func77, Tryz.ntmps77
  go_wp2_with (first
    | (go_at_call 117; first
      | ((with_reducible refine (hM0.out _).mono ?_); rintro e w1 ⟨rfl, hb⟩; have D1 := HD.out.later hb; have E1 := HE.out.later hb; replace B := bel_step B hb; have HD1 := Lib.hid D1; have HE1 := Lib.hid E1; obtain ⟨d0, d1, d2⟩ := D1; obtain ⟨e0, e1', e2'⟩ := E1)
      | ((with_reducible refine (hM1.out _).mono ?_); rintro e w2 ⟨rfl, hb2⟩; replace B := bel_step B hb2; obtain ⟨g0, g1, g2⟩ := HD1.out.later hb2; obtain ⟨h00, h01, h02⟩ := HE1.out.later hb2; clear d0 d1 d2 e0 e1' e2'))
    | (go_at_call 128; refine (hSe.out _ (fun i hi => cell_later B (HCL.out i hi)) (fun i hi => cell_later B (HCL2.out i hi))).mono ?_; rintro e w3 ⟨v3, rfl, ho, hb3⟩; have O3 := Lib.hid (ownsRow_base ho B.size); clear ho; replace B := bel_step B hb3))
  go_ret
  exact ⟨_, rfl, O3.out, B⟩
end Go.Proofs.YtooilemglmndeaaGreat

/- A matrix of rows, by the program. Condition: rows' lengths fit an int. -/
namespace Go.Proofs.YtooilemglmndeaaGreat
open Go.RowKit
set_option linter.unusedVariables false

/-- what is known of a slice of slices of integers -/
def RowsK (w : World) (a : Option Addr) (n : Nat) (R : List (List Int)) : Prop :=
  R.length = n ∧ (n = 0 ∨ ∃ b off, a = some ⟨b, off, none⟩ ∧ ∀ i, i < n → ∃ ai ci, w.cell? ⟨b, off + i, none⟩ = some (.slice ai (R.getD i []).length ci) ∧ SlK .u64 w ai (R.getD i []).length (R.getD i []))
theorem RowsK.later {w w' : World} {a : Option Addr} {n : Nat} {R : List (List Int)} (h : RowsK w a n R) (hb : Below w.heap.size w w') : RowsK w' a n R := by
  obtain ⟨h1, h2⟩ := h
  refine ⟨h1, ?_⟩
  rcases h2 with h2 | ⟨b, off, ha, hc⟩
  · exact .inl h2
  · refine .inr ⟨b, off, ha, fun i hi => ?_⟩
    obtain ⟨ai, ci, k1, k2⟩ := hc i hi
    exact ⟨ai, ci, cell_later hb k1, k2.below hb⟩
end Go.Proofs.YtooilemglmndeaaGreat

/- A matrix of rows, by the program, and its example. Condition: rows' lengths fit an int. -/
namespace Go.Proofs.YtooilemglmndeaaGreat
open Go.RowKit
set_option linter.unusedVariables false

theorem slk_src {w : World} {a : Option Addr} {n : Nat} {zs : List Int} (h : SlK .u64 w a n zs) (hn : 0 < n) : ∃ ad, a = some ad ∧ ∀ j v, (zs.map (Value.int .u64))[j]? = some v → w.cell? (ad.add j) = some v := by
  obtain ⟨b, off, rfl, hc⟩ := slk_pos h hn
  refine ⟨_, rfl, fun j v hv => ?_⟩
  rw [List.getElem?_map] at hv
  rcases Nat.lt_or_ge j zs.length with hj | hj
  · rw [List.getElem?_eq_getElem hj] at hv
    rw [addrK_add, hc j (by rw [← h.1]; exact hj), ← hv, List.getD_eq_getElem?_getD, List.getElem?_eq_getElem hj]; rfl
  · rw [List.getElem?_eq_none hj] at hv; cases hv
theorem wpList_copy_row {P : Program} {w : World} {ops : Array Oper} {rest : List Oper} {o : Oper} {a : Act} {Q : Exit → Act → World → Prop} (hgd : o.guard = none) (d s : Operand) (dT sT : TypeId)
    (ho : o.op = .call { callee := .builtin .copy, args := #[d, s], argTypes := #[dT, sT] }) (elem : TypeId) (hu : P.underlying dT = some (.slice elem)) (hsz : (P.info? elem).map (·.size) = some 1)
    (g off dLen dCap : Nat) (ad : Addr) (sLen sCap : Nat) (hd : a.eval d = .slice (some ⟨g, off, none⟩) dLen dCap) (hs : a.eval s = .slice (some ad) sLen sCap)
    (cur : List Value) (t : TypeId) (hg : w.heap[g]? = some (.cells cur.toArray t (0, 0))) (cs : List Value) (hn : cs.length = Nat.min sLen dLen)
    (hsrc : ∀ j v, cs[j]? = some v → w.cell? (ad.add j) = some v) (hfit : off + cs.length ≤ cur.length) (h1 : ∀ v ∈ cs, v.oneCell' = true)
    (h : ∀ v9, wpList P ops Q rest (a.put o.dst v9) (w.setRow g (splice cur off cs).toArray)) : wpList P ops Q (o :: rest) a w := by
  refine wpList_copy_own hgd d s dT sT ho elem hu hsz g off dLen dCap ad sLen sCap hd hs cur.toArray t hg cs hn hsrc (by simpa using hfit) h1 ?_
  have h' := h (goInt cs.length)
  unfold splice at h'
  exact h'
end Go.Proofs.YtooilemglmndeaaGreat

/- The chapter's example, over any memory. No condition. -/
namespace Go.Proofs.YtooilemglmndeaaGreat
open Go.RowKit
set_option linter.unusedVariables false

theorem pairs_cells {w : World} {base : Nat} {e : TypeId} {g cap : Nat} {F : List (Int × Int)} (h : w.ownsRow base e 2 (.slice (some ⟨g, 0, none⟩) F.length cap) F.length (pairs F)) {i : Nat} (hi : i < F.length) :
    w.cell? ⟨g, i * 2, none⟩ = some (.int .i64 (F.getD i (0, 0)).1) ∧ w.cell? ⟨g, i * 2 + 1, none⟩ = some (.int .i64 (F.getD i (0, 0)).2) := by
  have hp : ∀ (F : List (Int × Int)) (i : Nat), i < F.length → (pairs F)[i * 2]? = some (.int .i64 (F.getD i (0, 0)).1) ∧ (pairs F)[i * 2 + 1]? = some (.int .i64 (F.getD i (0, 0)).2) := by
    intro F
    induction F with
    | nil => intro i hi; simp at hi
    | cons p F ih =>
      intro i hi
      cases i with
      | zero => simp [pairs]
      | succ i =>
        have := ih i (by simpa using hi)
        simp only [pairs, List.flatMap_cons] at this ⊢
        rw [show (i + 1) * 2 = i * 2 + 2 by omega, show i * 2 + 2 + 1 = (i * 2 + 1) + 2 by omega]
        simpa using this
  obtain ⟨p1, p2⟩ := hp F i hi
  exact ⟨by rw [h.cellAt _ (by omega), p1], by rw [h.cellAt _ (by omega), p2]⟩
theorem ownsRow_pos {W : World} {base : Nat} {e : TypeId} {size : Nat} {v : Value} {k : Nat} {xs : List Value} (h : W.ownsRow base e size v k xs) (hk : 0 < k) : ∃ g cap, v = .slice (some ⟨g, 0, none⟩) k cap := by
  rcases h.2 with ⟨_, h0⟩ | ⟨g, cap, _, rfl, _⟩
  · omega
  · exact ⟨g, cap, rfl⟩
end Go.Proofs.YtooilemglmndeaaGreat

/- A struct's slice that grows, the struct in a block of the call's own. No condition. -/
namespace Go.Proofs.YtooilemglmndeaaGreat
open Go.RowKit
set_option linter.unusedVariables false

theorem Sb.setL {w : World} {b : Nat} {t : TypeId} {u v x : Value} (h : Sb w b t u v x) (y : Value) : Sb (w.setCell ⟨b, 2, none⟩ y) b t u v y := by
  have h' : w.heap[b]? = _ := h
  have h1 := Go.heap_setCell_same w b 2 _ t y h'
  simpa [Sb] using h1
theorem ownsRow_set {w : World} {base size n : Nat} {e : TypeId} {v : Value} {xs : List Value} (h : w.ownsRow base e size v n xs) {a : Addr} (ha : a.block < base) (y : Value) : (w.setCell a y).ownsRow base e size v n xs := by
  obtain ⟨h1, h2⟩ := h
  refine ⟨h1, ?_⟩
  rcases h2 with h2 | ⟨g, cap, cur, rfl, hbs, hg, r⟩
  · exact .inl h2
  · exact .inr ⟨g, cap, cur, rfl, hbs, heapSet w a y hg (by omega), r⟩
theorem pushL0 {W w1 : World} {b base : Nat} {T e : TypeId} {u1 u2 v v' : Value} {k m size : Nat} {xs ys : List Value}
    (hbox : Sb W b T u1 u2 v) (hrow : W.ownsRow base e size v k xs) (hlt : b < base) (hsz : base ≤ W.heap.size) (hown' : w1.ownsRow base e size v' m ys) (hgrow : W.grownBy w1 v.ownBlock) :
    Sb w1 b T u1 u2 v ∧ Sb (w1.setCell ⟨b, 2, none⟩ v') b T u1 u2 v' ∧ (w1.setCell ⟨b, 2, none⟩ v').ownsRow base e size v' m ys ∧ (∀ B, B ≤ b → Below B W (w1.setCell ⟨b, 2, none⟩ v')) ∧ base ≤ (w1.setCell ⟨b, 2, none⟩ v').heap.size := by
  have hb : ∀ j, v.ownBlock = some j → base ≤ j := fun j ej => (hrow.lt j ej).1
  have hBe : Below base W w1 := (Below.refl base W).grown hgrow hsz hb
  have h1 : Sb w1 b T u1 u2 v := hbox.below hBe hlt
  refine ⟨h1, h1.setL v', ownsRow_set hown' hlt v', fun B hB => (hBe.mono (by omega)).setCell hB v', ?_⟩
  have := hBe.size
  simp; omega
theorem pushL {W w1 : World} {b base : Nat} {T e : TypeId} {u1 u2 v v' : Value} {k m size : Nat} {xs ys : List Value} {tmp : Obj}
    (hbox : Sb W b T u1 u2 v) (hrow : W.ownsRow base e size v k xs) (hlt : b < base) (hsz : base ≤ W.heap.size) (hown' : w1.ownsRow base e size v' m ys) (hgrow : (W.alloc tmp).grownBy w1 v.ownBlock) :
    Sb w1 b T u1 u2 v ∧ Sb (w1.setCell ⟨b, 2, none⟩ v') b T u1 u2 v' ∧ (w1.setCell ⟨b, 2, none⟩ v').ownsRow base e size v' m ys ∧ (∀ B, B ≤ b → Below B W (w1.setCell ⟨b, 2, none⟩ v')) ∧ base ≤ (w1.setCell ⟨b, 2, none⟩ v').heap.size := by
  obtain ⟨h1, h2, h3, h4, h5⟩ := pushL0 (hbox.alloc tmp) (hrow.alloc tmp) hlt (by simp; omega) hown' hgrow
  exact ⟨h1, h2, h3, fun B hB => ((Below.refl B W).alloc (by omega) tmp).trans (h4 B hB), h5⟩
theorem bel_drewN {B : Nat} {a w : World} (h : Below B a w) (n : Nat) : Below B a (w.drewN n) := ⟨h.os, h.tape, h.output, h.size, h.block⟩
end Go.Proofs.YtooilemglmndeaaGreat

/- A matrix that may be, made of any, by the document. Condition: numbers fit their kinds. -/
namespace Go.Proofs.YtooilemglmndeaaGreat
open Go.RowKit
theorem around_i {n m : Int} (h : I64 n) (hm : 0 < m) (hm2 : m ≤ 9223372036854775807) (w : World) :
    Calls Tryz.prog 17 #[.int .i64 n, .int .i64 m] w fun e w' => e = .returned (.int .i64 (Ar.around n m)) ∧ w = w' := aroundOf n m h.1 h.2 hm hm2 w
theorem Pc.lt {w : World} {b : Nat} {t : TypeId} {x y : Int} (h : Pc w b t x y) : b < w.heap.size := (Array.getElem?_eq_some_iff.1 h).1
/-- the i-th number of a matrix made of others -/
def goodAt (zs : List Int) (i : Nat) : Int := if zs = [] then 0 else zs.getD (i % zs.length) 0 % 3
def goodL (zs : List Int) (n : Nat) : List Int := (List.range n).map (goodAt zs)
def goodW (W most : Int) : Int := 1 + Ar.around W most
theorem goodL_len (zs : List Int) (n : Nat) : (goodL zs n).length = n := by simp [goodL]
theorem goodW_in (W most : Int) (h : 0 < most) : 1 ≤ goodW W most ∧ goodW W most ≤ most := by have := Ar.around_lt W most h; unfold goodW; omega
/-- the matrix -/
def goodM (W H most : Int) (zs : List Int) : List Int := goodL zs ((goodW H most).toNat * (goodW W most).toNat)
theorem good_ok (W H most : Int) (zs : List Int) (h : 0 < most) (h8 : most ≤ 8) : Rc.Ok (goodW W most) (goodW H most) (goodM W H most zs) := by
  obtain ⟨a1, a2⟩ := goodW_in W most h
  obtain ⟨b1, b2⟩ := goodW_in H most h
  refine ⟨a1, by omega, b1, by omega, ?_, goodL_len _ _⟩
  have := Int.mul_le_mul a2 b2 (by omega) (by omega : (0:Int) ≤ most)
  have h64 : most * most ≤ 8 * 8 := Int.mul_le_mul h8 h8 (by omega) (by omega)
  omega
theorem ownK_set {q : IntKind} {base : Nat} {w : World} {ad : Option Addr} {zs : List Int} (h : OwnK q base w ad zs) {a : Addr} (ha : a.block < base) (y : Value) : OwnK q base (w.setCell a y) ad zs := by
  rcases h with h | ⟨g, h1, h2, h3, h4, h5⟩
  · exact .inl h
  · refine .inr ⟨g, h1, h2, by simpa using h3, fun i hi => ?_, fun i => ?_⟩
    · rw [World.cell?_setCell_other _ _ _ _ (fun e => by have := congrArg Addr.block e; simp at this; omega)]; exact h4 i hi
    · rw [World.frozen?_setCell]; exact h5 i
end Go.Proofs.YtooilemglmndeaaGreat

/- A row, a column, a part, by the document. Condition: the matrix may be. -/
namespace Go.Proofs.YtooilemglmndeaaGreat
open Go.RowKit
set_option linter.unusedVariables false

theorem ownsRow_cap9 {w : World} {base size k n cap : Nat} {e : TypeId} {ad : Option Addr} {xs : List Value} (h : w.ownsRow base e size (.slice ad n cap) k xs) : cap ≤ 9223372036854775807 := by
  rcases h.2 with ⟨h1, _⟩ | ⟨g, c, cur, h1, _, _, _, h9, _⟩
  · injection h1 with _ _ h3; omega
  · injection h1 with _ _ h3; subst h3; exact h9
theorem cut_map {L : List Int} {W x y w : Int} (h : y.toNat * W.toNat + x.toNat + w.toNat ≤ L.length) : Rc.cutL L W x y w = (List.range w.toNat).map fun i => L.getD (y.toNat * W.toNat + x.toNat + i) 0 := by
  unfold Rc.cutL
  refine List.ext_getElem (by simp; omega) fun i h1 h2 => ?_
  simp at h1 h2
  simp [List.getElem_take, List.getElem_drop]
  rw [List.getElem?_eq_getElem (by omega)]; rfl
/-- row k of a part, its first i numbers -/
def pRow (L : List Int) (W x y : Int) (k i : Nat) : List Int := (List.range i).map fun (i : Nat) => L.getD ((y + k).toNat * W.toNat + (x + i).toNat) 0
theorem pRow_succ (L : List Int) (W x y : Int) (k i : Nat) : pRow L W x y k (i + 1) = pRow L W x y k i ++ [L.getD ((y + k).toNat * W.toNat + (x + i).toNat) 0] := by simp [pRow, List.range_succ]
theorem pRow_len (L : List Int) (W x y : Int) (k i : Nat) : (pRow L W x y k i).length = i := by simp [pRow]
theorem pRow_all {L : List Int} {W H x y w h : Int} (ho : Rc.Ok W H L) (hx : Rc.insV x w W = true) (hy : Rc.insV y h H = true) {k : Nat} (hk : k < h.toNat) : pRow L W x y k w.toNat = Rc.cutL L W x (y + k) w := by
  obtain ⟨p1, p2, p3, p4⟩ := place ho hx (Rc.insV_row hy hk)
  obtain ⟨a1, a2, a3, a4⟩ := Rc.insV_iff.1 hx
  rw [cut_map p3, pRow]
  refine List.map_congr_left fun i hi => ?_
  rw [show (x + (i : Int)).toNat = x.toNat + i by omega, Nat.add_assoc]
def pRows (L : List Int) (W x y w : Int) (k : Nat) : List Int := Rc.rowsOf (fun j => pRow L W x y j w.toNat) k
theorem pRows_len (L : List Int) (W x y w : Int) (k : Nat) : (pRows L W x y w k).length = k * w.toNat := Rc.rowsOf_length fun j hj => pRow_len ..
end Go.Proofs.YtooilemglmndeaaGreat

/- A part of a matrix by the document's own answer, over any memory. Condition: the matrix may be. -/
namespace Go.Proofs.YtooilemglmndeaaGreat
open Go.RowKit
set_option linter.unusedVariables false

set_option maxRecDepth 100000 in
set_option maxHeartbeats 8000000 in
theorem refSub_yes (W H x y p q : Int) (a : Option Addr) (c : Nat) (L : List Int) (hL : Rc.Ok W H L) (hc : L.length ≤ c) (hc2 : c ≤ 9223372036854775807) (hx : Rc.insV x p W = true) (hy : Rc.insV y q H = true) (w : World) (hs : SlK .u64 w a L.length L) :
    Calls Tryz.prog 170 #[.agg #[.int .i64 W, .int .i64 H, .slice a L.length c], .int .i64 x, .int .i64 y, .int .i64 p, .int .i64 q] w fun e w' =>
      MatR w.heap.size w' e (p, q, Rc.subL L W x y p q) [.bool true] ∧ Below w.heap.size w w' := by
  have hn := ok_len hL
  have hSO := Rc.sub_ok hL hx hy
  have hW := hL.2.1
  have hH := hL.2.2.2.1
  obtain ⟨a1, a2, a3, a4⟩ := Rc.insV_iff.1 hx
  obtain ⟨b1, b2, b3, b4⟩ := Rc.insV_iff.1 hy
  have hAt := Lib.hid (fun (X Y : Int) (W2 : World) h => refAt_any W H X Y a c L hL hc hc2 W2 h)
  have HS := Lib.hid hs
  have HL := Lib.hid hL
  have HX := Lib.hid hx
  have HY := Lib.hid hy
  have HSO := Lib.hid (ok_len hSO)
  have HSL := Lib.hid hSO.2.2.2.2.2
  obtain ⟨n, hnn⟩ : ∃ n, L.length = n := ⟨_, rfl⟩
  rw [hnn] at hc hAt HS hn ⊢
  have hD := Lib.hid (show Sb ((w.alloc (.cells #[.int .i64 W, .int .i64 H, .slice a n c] 32)).alloc (.cells #[.int .i64 0, .int .i64 0, .slice none 0 0] 32)) w.heap.size 32 (.int .i64 W) (.int .i64 H) (.slice a n c) from (Sb.new _ _ _ _ _).alloc _)
  have hE := Lib.hid (show Sb ((w.alloc (.cells #[.int .i64 W, .int .i64 H, .slice a n c] 32)).alloc (.cells #[.int .i64 0, .int .i64 0, .slice none 0 0] 32)) (w.heap.size + 1) 32 (.int .i64 0) (.int .i64 0) (.slice none 0 0) from by simpa using Sb.new (w.alloc (.cells #[.int .i64 W, .int .i64 H, .slice a n c] 32)) 32 (.int .i64 0) (.int .i64 0) (.slice none 0 0))
  have B := Lib.hid (box2 w (.cells #[.int .i64 W, .int .i64 H, .slice a n c] 32) (.cells #[.int .i64 0, .int .i64 0, .slice none 0 0] 32))
  have k1 : ¬ x < 0 := by omega
  have k2 : ¬ y < 0 := by omega
  have k3 : ¬ p < 1 := by omega
  have k4 : ¬ q < 1 := by omega
  have k5 : ¬ W < x := by omega
  have k6 : ¬ H < y := by omega
  have k7 : wrap64 (W - x) = W - x := by rw [IntWalk.wrap64_in] <;> omega
  have k8 : wrap64 (H - y) = H - y := by rw [IntWalk.wrap64_in] <;> omega
  have k9 : ¬ W - x < p := by omega
  have k10 : ¬ H - y < q := by omega
  obtain ⟨i0, hi, hz0, hz1, hz2⟩ := info_parts Tryz.info_px
  clear hnn hL hx hy hs hSO
  go_enter Tryz.func170, Tryz.ntmps170
  go_wp2
  obtain ⟨W0, hW0⟩ : ∃ W0, (w.alloc (.cells #[.int .i64 W, .int .i64 H, .slice a n c] 32)).alloc (.cells #[.int .i64 0, .int .i64 0, .slice none 0 0] 32) = W0 := ⟨_, rfl⟩
  rw [hW0] at hD hE B ⊢
  have h0 : w.heap.size + 2 = W0.heap.size := by rw [← hW0]; simp
  have HO := Lib.hid (Sb.new W0 32 (.int .i64 p) (.int .i64 q) (.slice none 0 0))
  have HB0 := Lib.hid (box1 W0 (.cells #[.int .i64 p, .int .i64 q, .slice none 0 0] 32))
  simp only [show w.heap.size + 1 + 1 = W0.heap.size from h0]
  have H0 := Lib.hid h0
  clear hW0 k1 k2 k3 k4 k5 k6 k7 k8 k9 k10 h0
  go_loopg [13] q.toNat (fun g s13 wr => ∃ (k : Nat) (v : Value), k + g = q.toNat ∧ s13 = .int .i64 k ∧ Below W0.heap.size W0 wr ∧ W0.heap.size + 1 ≤ wr.heap.size ∧ Sb wr W0.heap.size 32 (.int .i64 p) (.int .i64 q) v ∧ wr.ownsRow (W0.heap.size + 1) 55 1 v (pRows L W x y p k).length ((pRows L W x y p k).map (Value.int .u64)))
  case atStart => exact ⟨0, _, by omega, rfl, HB0.out, by simp, HO.out, World.ownsRow_nil _ _ _ _⟩
  case round =>
    obtain ⟨k, v, hk, rfl, hBr, hsz, hOr, hrow⟩ := hrel
    cases gk with
    | zero =>
      have hlt : ¬ (k : Int) < q := by omega
      obtain rfl : k = q.toNat := by omega
      obtain ⟨ad, cap, rfl, hown, hcap⟩ := ownK_row rfl hrow
      have hcap2 := ownsRow_cap9 hrow
      obtain ⟨o0, o1, o2⟩ := hOr.cells
      have hE1 := hE.out.later hBr
      obtain ⟨e0, e1, e2⟩ := hE1.cells
      obtain ⟨f0, f1, f2⟩ := hE1.fr
      have hpl : pRows L W x y p q.toNat = Rc.subL L W x y p q := Rc.rowsOf_congr fun j hj => pRow_all HL.out HX.out HY.out hj
      rw [hpl] at hown hcap o2 hOr
      go_wp2
      have h0 := H0.out
      have R := hE1.put (.int .i64 p) (.int .i64 q) (.slice ad (Rc.subL L W x y p q).length cap)
      refine bodyPost_ret (ret_cell2 Tryz.results170 _ _ _ _ rfl (load_m R)) rfl ?_
      have hBf := (((bel_step (w := w) B.out hBr).setCell (p := ⟨w.heap.size + 1, 0, none⟩) (by simp) (.int .i64 p)).setCell (p := ⟨w.heap.size + 1, 1, none⟩) (by simp) (.int .i64 q)).setCell (p := ⟨w.heap.size + 1, 2, none⟩) (by simp) (.slice ad (Rc.subL L W x y p q).length cap)
      exact ⟨⟨ad, cap, rfl, (ownK_set (ownK_set (ownK_set hown (by simp; omega) _) (by simp; omega) _) (by simp; omega) _).mono (by omega), hcap, hcap2⟩, hBf⟩
    | succ g =>
      have hlt : (k : Int) < q := by omega
      go_wp2
      have HB1 := Lib.hid hBr
      have HO1 := Lib.hid hOr
      have HR1 := Lib.hid hrow
      have HK := Lib.hid hk
      clear hBr hOr hrow
      go_loopg [14] p.toNat (fun g2 s14 wx => ∃ (i : Nat) (v : Value), i + g2 = p.toNat ∧ s14 = .int .i64 i ∧ Below W0.heap.size W0 wx ∧ W0.heap.size + 1 ≤ wx.heap.size ∧ Sb wx W0.heap.size 32 (.int .i64 p) (.int .i64 q) v ∧ wx.ownsRow (W0.heap.size + 1) 55 1 v (pRows L W x y p k ++ pRow L W x y k i).length ((pRows L W x y p k ++ pRow L W x y k i).map (Value.int .u64)))
      case atStart => exact ⟨0, _, by omega, rfl, HB1.out, hsz, HO1.out, by simpa [pRow] using HR1.out⟩
      case round =>
        obtain ⟨i, v2, hi2, rfl, hBr, hsz2, hOr, hrow⟩ := hrel
        cases gk with
        | zero =>
          have hlt2 : ¬ (i : Int) < p := by omega
          obtain rfl : i = p.toNat := by omega
          go_wp2
          go_roundg g
          case measure => omega
          case rel => exact ⟨k + 1, _, by have := HK.out; omega, by go_num, hBr, hsz2, hOr, by rw [show pRows L W x y p (k + 1) = pRows L W x y p k ++ pRow L W x y k p.toNat from Rc.rowsOf_succ _ _]; exact hrow⟩
        | succ g2 =>
          have hlt2 : (i : Int) < p := by omega
          have hxi : wrap64 (x + i) = x + i := by rw [IntWalk.wrap64_in] <;> omega
          have hyk : wrap64 (y + k) = y + k := by rw [IntWalk.wrap64_in] <;> omega
          obtain ⟨d0, d1, d2⟩ := (hD.out.later hBr).cells
          have hin : (Rc.insV (x + i) 1 W && Rc.insV (y + k) 1 H) = true := by rw [Bool.and_eq_true, Rc.insV_iff, Rc.insV_iff]; omega
          have hAt1 := Lib.hid (hAt.out (x + i) (y + k) wr ((HS.out.below B.out).below hBr))
          have hval := Lib.hid (show Rc.atV W H L (x + i) (y + k) = (L.getD ((y + k).toNat * W.toNat + (x + i).toNat) 0, true) by simp only [Rc.atV, hin, if_true])
          rw [hval.out] at hAt1
          obtain ⟨u, HU⟩ : ∃ u, Hid (L.getD ((y + k).toNat * W.toNat + (x + i).toNat) 0 = u) := ⟨_, rfl⟩
          rw [HU.out] at hAt1
          have hlen : (pRows L W x y p k ++ pRow L W x y k i).length ≤ 16777216 := by
            have h1 := HSL.out
            have h2 := HSO.out
            rw [List.length_append, pRows_len, pRow_len]
            have h3 : (k + 1) * p.toNat ≤ q.toNat * p.toNat := Nat.mul_le_mul_right _ (by omega)
            rw [Nat.succ_mul] at h3
            omega
          obtain ⟨F, hF⟩ : ∃ F, pRows L W x y p k ++ pRow L W x y k i = F := ⟨_, rfl⟩
          rw [hF] at hrow hlen
          have HF := Lib.hid hF
          clear hF hin
          go_wp2_with (first
            | (go_at_call 194; refine hAt1.out.mono ?_; rintro e w9 ⟨rfl, hb9⟩; have hrow9 := ownsRow_later hrow hb9; have hOr9 := hOr.later hb9; have hBr9 := hBr.trans (hb9.mono hBr.size); have hsz9 := Nat.le_trans hsz2 hb9.size; obtain ⟨o0, o1, o2⟩ := hOr9.cells)
            | (at_builtin; refine wpList_append_own _ rfl _ _ 30 rfl (W0.heap.size + 1) 55 i0 (.int .u64 0) 1 8 Tryz.underlying30 hi hz0 hz1 hz2 rfl (by decide) v2 F.length _ rfl (hrow9.alloc _) ⟨w9.heap.size, 0, none⟩ 1 1 [.int .u64 u] rfl rfl (cell_one_new _ _ _) (by simp [Value.oneCell']) (by unfold maxLen; omega) (by omega) (by simp; omega) ?_; intro v' w1 hown' hgrow' _; obtain ⟨ad', cap', rfl⟩ := ownsRow_val hown'; obtain ⟨j1, j2, j3, j4, j5⟩ := pushL hOr9 hrow9 (Nat.lt_succ_self _) hsz9 hown' hgrow'; obtain ⟨r0, r1, r2⟩ := j1.cells; obtain ⟨r3, r4, r5⟩ := j1.fr))
          go_roundg g2
          case measure => omega
          case rel =>
            refine ⟨i + 1, _, by omega, by go_num, hBr9.trans (j4 _ (Nat.le_refl _)), j5, j2, ?_⟩
            rw [pRow_succ, ← List.append_assoc, HF.out, HU.out, List.map_append, List.length_append]
            exact j3
end Go.Proofs.YtooilemglmndeaaGreat

/- What Unpack, May, Format and Fits come to, over any memory, of pix and of the document's own answer. Condition: numbers fit their kinds. -/
namespace Go.Proofs.YtooilemglmndeaaGreat
open Go.RowKit
set_option linter.unusedVariables false
namespace Pq
/-- Integers in memory of the call's own. -/
def Own (base : Nat) (w : World) (ad : Option Addr) (zs : List Int) : Prop :=
  zs = [] ∨ ∃ g, ad = some ⟨g, 0, none⟩ ∧ base ≤ g ∧ g < w.heap.size ∧ (∀ i, i < zs.length → w.cell? ⟨g, i, none⟩ = some (.int .i64 (zs.getD i 0))) ∧ (∀ i, i < zs.length → w.frozen? ⟨g, i, none⟩ = false)
theorem Own.sl {base : Nat} {w : World} {ad : Option Addr} {zs : List Int} (h : Own base w ad zs) : Sl w ad zs.length zs := by
  refine ⟨rfl, ?_⟩
  rcases h with rfl | ⟨g, h1, _, _, h2, _⟩
  · exact .inl rfl
  · exact .inr ⟨g, 0, h1, fun i hi => by simpa using h2 i hi⟩
theorem Own.mono {base base' : Nat} {w : World} {ad : Option Addr} {zs : List Int} (h : Own base w ad zs) (hb : base' ≤ base) : Own base' w ad zs := by
  rcases h with h | ⟨g, h1, h2, h3⟩
  · exact .inl h
  · exact .inr ⟨g, h1, Nat.le_trans hb h2, h3⟩
theorem Own.later {base : Nat} {w w' : World} {ad : Option Addr} {zs : List Int} (h : Own base w ad zs) (hb : Below w.heap.size w w') : Own base w' ad zs := by
  rcases h with rfl | ⟨g, h1, h2, h3, h4, h5⟩
  · exact .inl rfl
  · exact .inr ⟨g, h1, h2, by have := hb.size; omega, fun i hi => cell_later hb (h4 i hi), fun i hi => by rw [hb.frozen (p := ⟨g, i, none⟩) h3]; exact h5 i hi⟩
theorem own_row {base : Nat} {w : World} {v : Value} {n : Nat} {zs : List Int} (hn : zs.length = n) (h : w.ownsRow base 3 1 v n (zs.map (Value.int .i64))) :
    ∃ ad cap, v = .slice ad n cap ∧ Own base w ad zs := by
  have H := h
  obtain ⟨h1, h2⟩ := h
  rcases h2 with ⟨rfl, rfl⟩ | ⟨g, cap, cur, rfl, hb, hg, hle, hm, hsz, htk⟩
  · exact ⟨none, 0, rfl, .inl (by cases zs with | nil => rfl | cons => simp at hn)⟩
  · refine ⟨_, cap, rfl, .inr ⟨g, rfl, hb, (H.lt g rfl).2, fun i hi => ?_, fun i hi => H.frozenAt i⟩⟩
    have hi' : i < (zs.map (Value.int .i64)).length := by simpa using hi
    have e : cur[i]? = some (.int .i64 (zs.getD i 0)) := by
      have : (zs.map (Value.int .i64))[i]? = some (.int .i64 (zs.getD i 0)) := by
        rw [List.getElem?_map, List.getElem?_eq_getElem hi, List.getD_eq_getElem?_getD, List.getElem?_eq_getElem hi]; rfl
      rw [← htk, List.getElem?_take_of_lt (by simp at hi'; omega)] at this
      simpa using this
    simp [World.cell?, hg, e]
/-- a result that is a slice of one's own -/
def OutSl (w : World) (zs : List Int) (e : Ending) (w' : World) : Prop :=
  ∃ ad cap, e = .returned (.slice ad zs.length cap) ∧ Own w.heap.size w' ad zs ∧ Below w.heap.size w w'

theorem addr_add (b off j : Nat) : (⟨b, off, none⟩ : Addr).add j = ⟨b, off + j, none⟩ := by cases j <;> simp [Addr.add]
theorem Tryz.info_int : (Tryz.prog.info? 3).map (fun i => (i.zero, i.size, i.bytes)) = some (some (.int .i64 0), 1, 8) := by kernel_rfl

theorem clone_some (b off len cap : Nat) (zs : List Int) (w : World) (hz : zs.length = len) (hlen : len * 8 ≤ 140737488355328)
    (hc : ∀ i, i < len → w.cell? ⟨b, off + i, none⟩ = some (.int .i64 (zs.getD i 0))) :
    Calls Tryz.prog 202 #[.slice (some ⟨b, off, none⟩) len cap] w (OutSl w zs) := by
  obtain ⟨i0, hi, hz0, hz1, hz2⟩ := info_parts Tryz.info_int
  have hn := Lib.run_eql_slice_nil (P := Tryz.prog)
  have hni : ∀ i, (zs.map (Value.int .i64))[i]? = (zs[i]?).map (Value.int .i64) := fun i => List.getElem?_map ..
  have HN := Lib.hid hni; clear hni
  have HC := Lib.hid hc; clear hc
  have hb1 : len ≤ maxLen := by unfold maxLen; omega
  have HZ := Lib.hid hz; clear hz
  by_cases h0 : len = 0
  · subst h0
    have hz' : zs = [] := List.eq_nil_of_length_eq_zero HZ.out
    subst hz'
    go_enter Tryz.func202, Tryz.ntmps202
    go_wp2_with (at_builtin; refine wpList_append_fits _ rfl (.tmp 5) (.tmp 6) 25 rfl w.heap.size 3 i0 1 Tryz.underlying25 hi hz1 w.heap.size 0 0 [] rfl ?own ⟨b, off, none⟩ 0 cap [] rfl rfl ?c1 ?c2 (Nat.le_refl _) ?grow)
    case own => exact World.ownsRow_made w #[] 0 (Nat.le_refl _) (by unfold maxLen; omega) rfl
    case c1 => intro j u hj; simp at hj
    case c2 => intro u hu; simp at hu
    case grow =>
      intro w' hown hgrow
      go_wp2
      go_ret
      exact ⟨_, 0, rfl, .inl rfl, ((Below.refl _ _).alloc (Nat.le_refl _) _).grown hgrow (by simp) (fun k h => by cases h; exact Nat.le_refl _)⟩
  · go_enter Tryz.func202, Tryz.ntmps202
    go_wp2_with (at_builtin; refine wpList_append_grows _ rfl (.tmp 5) (.tmp 6) 25 rfl 3 i0 (.int .i64 0) 1 8 Tryz.underlying25 hi hz0 hz1 hz2 rfl (by decide) (some ⟨w.heap.size, 0, none⟩) 0 0 [] rfl (fun h => by cases h) rfl (by intro _ _ _ _ h; simp at h) ⟨b, off, none⟩ len cap (zs.map (Value.int .i64)) rfl ?c0 ?c1 ?c2 ?b0 ?b1 ?b2 ?grow)
    case c0 => simpa using HZ.out
    case c1 =>
      intro j u hj
      rw [HN.out] at hj
      have hj' : j < zs.length := by
        rcases Nat.lt_or_ge j zs.length with h | h
        · exact h
        · rw [List.getElem?_eq_none h] at hj; cases hj
      have hj2 : u = .int .i64 (zs.getD j 0) := by
        rw [List.getElem?_eq_getElem hj'] at hj
        rw [List.getD_eq_getElem?_getD, List.getElem?_eq_getElem hj']; simpa using hj.symm
      rw [hj2]
      have := HC.out j (by rw [← HZ.out]; exact hj')
      have hbb : b < w.heap.size := block_lt_of_cell this
      rw [addr_add, World.cell?_alloc_past _ _ _ hbb]
      exact this
    case c2 => intro u hu; simp at hu; obtain ⟨n, _, rfl⟩ := hu; rfl
    case b0 => omega
    case b1 => omega
    case b2 => omega
    case grow =>
      intro v' w' hown hgrow
      go_wp2
      go_ret
      have hbel : Below w.heap.size w w' := ((Below.refl _ _).alloc (Nat.le_refl _) _).grown hgrow (by simp) (fun k h => by cases h)
      obtain ⟨ad, cp, hv, ho⟩ := own_row (zs := zs) (n := 0 + len) (by rw [HZ.out]; omega) (by simpa using hown)
      have e := HZ.out
      refine ⟨ad, cp, ?_, ho.mono (by simp), hbel⟩
      rw [e, ← Nat.zero_add len, ← hv]; rfl

theorem unpack_any (p : Int) (hU : Px.U p) (w : World) :
    Calls Tryz.prog 190 #[.int .u64 p] w (OutSl w (Px.smp p)) := by
  rcases Px.tri hU with ⟨a, b, c, h⟩ | ⟨a, h⟩ | h
  · have X := Lib.hid (Px.smp3 h)
    go_enter Tryz.func190, Tryz.ntmps190
    go_wp2_with (go_at_call 150; refine (split3 p a b c h _).mono ?_; rintro e w1 ⟨rfl, hb1⟩)
    refine (clone_some _ 0 3 _ [a, b, c] _ rfl (by omega) ?_).mono ?_
    · intro i hi
      obtain rfl | rfl | rfl : i = 0 ∨ i = 1 ∨ i = 2 := by omega
      all_goals simp [go_sem]
    rintro e w2 ⟨ad, cap, rfl, ho, hb2⟩
    go_wp2
    go_ret
    refine ⟨ad, cap, by rw [X.out]; rfl, by rw [X.out]; exact ho.mono (by have := hb1.size; simp; omega), ?_⟩
    exact ((hb1.alloc (by have := hb1.size; omega) _).trans (hb2.mono (B' := w.heap.size) (by have := hb1.size; simp; omega)))
  · have X := Lib.hid (Px.smp1 h)
    go_enter Tryz.func190, Tryz.ntmps190
    go_wp2_with (go_at_call 150; refine (split1 p a h _).mono ?_; rintro e w1 ⟨rfl, hb1⟩)
    refine (clone_some _ 0 1 _ [a] _ rfl (by omega) ?_).mono ?_
    · intro i hi
      obtain rfl : i = 0 := by omega
      all_goals simp [go_sem]
    rintro e w2 ⟨ad, cap, rfl, ho, hb2⟩
    go_wp2
    go_ret
    refine ⟨ad, cap, by rw [X.out]; rfl, by rw [X.out]; exact ho.mono (by have := hb1.size; simp; omega), ?_⟩
    exact ((hb1.alloc (by have := hb1.size; omega) _).trans (hb2.mono (B' := w.heap.size) (by have := hb1.size; simp; omega)))
  · have X := Lib.hid (Px.smp0 h)
    go_enter Tryz.func190, Tryz.ntmps190
    go_wp2_with (go_at_call 150; refine (split0 p hU h _).mono ?_; rintro e w1 ⟨rfl, hb1⟩)
    refine (clone_some _ 0 0 _ [] _ rfl (by omega) ?_).mono ?_
    · intro i hi
      omega
      
    rintro e w2 ⟨ad, cap, rfl, ho, hb2⟩
    go_wp2
    go_ret
    refine ⟨ad, cap, by rw [X.out]; rfl, by rw [X.out]; exact ho.mono (by have := hb1.size; simp; omega), ?_⟩
    exact ((hb1.alloc (by have := hb1.size; omega) _).trans (hb2.mono (B' := w.heap.size) (by have := hb1.size; simp; omega)))


end Pq
end Go.Proofs.YtooilemglmndeaaGreat

/- Unpack at numbers that are pixels of three samples, of one, and at those that are none. Condition: numbers fit their kinds. -/
namespace Go.Proofs.YtooilemglmndeaaGreat
open Go.RowKit
set_option linter.unusedVariables false
namespace Pq
theorem isU3 {p a b c : Int} (h : Px.Is3 p a b c) : Px.U p := by unfold Px.Is3 at h; unfold Px.U; omega
theorem isU1 {p a : Int} (h : Px.Is1 p a) : Px.U p := by unfold Px.Is1 at h; unfold Px.U; omega
end Pq
end Go.Proofs.YtooilemglmndeaaGreat

/- A reader of a number is told a byte, by the code and by the document, as one plain function; a text's first bytes. Condition: its greatest number fits. -/
namespace Go.Proofs.YtooilemglmndeaaGreat
open Go.RowKit
set_option linter.unusedVariables false

def nxt (k b : Nat) : Value := if k = 0 then nxA b else if k = 1 then nxR b else if k = 2 then nxD b else nxB b
/-- a reader in the block b is where s says -/
def RdS (w : World) (b : Nat) (m : Int) (s : Tk.S) : Prop :=
  Tk.Good m s ∧ ∃ v f x, RdC w b m v s.bg (Tk.st s) f x ∧ (s.k ≤ 4 → v = s.n) ∧ (s.k ≤ 3 → x = nxt s.k b) ∧ (s.k = 5 → f = s.e)
theorem RdS.lt {w : World} {b : Nat} {m : Int} {s : Tk.S} (h : RdS w b m s) : b < w.heap.size := by obtain ⟨_, v, f, x, h1, _⟩ := h; exact h1.lt
theorem RdS.kept {w w' : World} {row : Option Nat} {b : Nat} {m : Int} {s : Tk.S} (h : RdS w b m s) (hg : w.grownBy w' row) (hne : some b ≠ row) : RdS w' b m s := by
  obtain ⟨hG, v, f, x, h1, h2⟩ := h; exact ⟨hG, v, f, x, h1.kept hg hne, h2⟩
theorem RdS.later {w w' : World} {b : Nat} {m : Int} {s : Tk.S} (h : RdS w b m s) (hb : Below w.heap.size w w') : RdS w' b m s := by
  obtain ⟨hG, v, f, x, h1, h2⟩ := h; exact ⟨hG, v, f, x, h1.later hb, h2⟩
theorem tokNew_s (m : Int) (m0 : 0 ≤ m) (w : World) :
    Calls Tryz.prog 218 #[.int .i64 m] w fun e w' => e = .returned (.pointer (some ⟨w.heap.size, 0, none⟩)) ∧ RdS w' w.heap.size m Tk.new ∧ Below w.heap.size w w' := by
  refine (tokNew_any m w).mono ?_
  rintro e w' ⟨rfl, h, hb⟩
  exact ⟨rfl, ⟨Tk.good_new m0, 0, 0, _, h, fun _ => rfl, fun _ => rfl, fun h => absurd h (by decide)⟩, hb⟩
def PutR (w : World) (b : Nat) (m : Int) (s : Tk.S) (e : Ending) (w' : World) : Prop :=
  e = .returned (.int .i64 (Tk.st s)) ∧ RdS w' b m s ∧ w.grownBy w' (some b)
theorem enA : ∀ args w, (callFunc 225 args).run Tryz.prog w = .ok (.enter 225 args) w := enters_of Tryz.func225 (by kernel_rfl) rfl
theorem enR : ∀ args w, (callFunc 226 args).run Tryz.prog w = .ok (.enter 226 args) w := enters_of Tryz.func226 (by kernel_rfl) rfl
theorem enD : ∀ args w, (callFunc 227 args).run Tryz.prog w = .ok (.enter 227 args) w := enters_of Tryz.func227 (by kernel_rfl) rfl
theorem enB : ∀ args w, (callFunc 230 args).run Tryz.prog w = .ok (.enter 230 args) w := enters_of Tryz.func230 (by kernel_rfl) rfl
/-- both what the code and what the document do with a byte, told together -/
theorem put_both {m : Int} {s : Tk.S} (hG : Tk.Good m s) (m1 : m ≤ 4611686018427387903) (c : Int) (c0 : 0 ≤ c) (c1 : c ≤ 255) :
    (∀ w b, RdS w b m s → Calls Tryz.prog 219 #[.pointer (some ⟨b, 0, none⟩), .int .u8 c] w (PutR w b m (Tk.put m s c))) ∧
    (∀ w, Calls Tryz.prog 108 #[agS s.k s.n m s.e, .int .u8 c] w (RpR w (Tk.put m s c).k (Tk.put m s c).n m (Tk.put m s c).e (Tk.st (Tk.put m s c)))) := by
  have hG' := Tk.good_put hG c
  generalize ht : Tk.put m s c = t at hG' ⊢
  obtain ⟨k, n, e, bg⟩ := s
  have H := hG
  obtain ⟨h1, h2, h3, h4, h5, h6, h7, h8⟩ := H
  simp only at h1 h2 h3 h4 h5 h6 h7 h8
  have L10 : Tk.line 10 = true := by decide
  have L13 : Tk.line 13 = true := by decide
  have fin : ∀ (w : World) (b : Nat) (v : Int) (f : Int) (x : Value), (t.k ≤ 4 → v = t.n) → (t.k ≤ 3 → x = nxt t.k b) → (t.k = 5 → f = t.e) → ∀ e' w', (e' = Ending.returned (.int .i64 (Tk.st t)) ∧ RdC w' b m v t.bg (Tk.st t) f x ∧ w.grownBy w' (some b)) → PutR w b m t e' w' := fun w b v f x a1 a2 a3 e' w' hh => ⟨hh.1, ⟨hG', v, f, x, hh.2.1, a1, a2, a3⟩, hh.2.2⟩
  have hk : k = 0 ∨ k = 1 ∨ k = 2 ∨ k = 3 ∨ k = 4 ∨ k = 5 := by omega
  have nl : Tk.line c = false → (c == 10) = false ∧ (c == 13) = false := fun h => by unfold Tk.line at h; simp at h; simp; exact h
  have yl : Tk.line c = true → c = 10 ∨ c = 13 := fun h => by unfold Tk.line at h; simpa using h
  rcases hk with rfl | rfl | rfl | rfl | rfl | rfl
  · -- ahead
    obtain ⟨rfl, rfl⟩ := h7 (by omega)
    have h9 := h4 (by omega); subst h9
    have open' : ∀ w b, RdS w b m ⟨0, 0, 9, false⟩ → ∃ f, RdC w b m 0 false 0 f (nxA b) := fun w b hr => by
      obtain ⟨_, v, f, x, r1, r2, r3, _⟩ := hr
      have := r2 (by simp); simp only at this; subst this
      have := r3 (by simp); subst this
      exact ⟨f, r1⟩
    by_cases hc : c = 35
    · subst hc
      have ht' : t = ⟨1, 0, 9, false⟩ := by rw [← ht]; rfl
      subst ht'
      refine ⟨fun w b hr => ?_, fun w => rp_a35 0 m 9 w⟩
      obtain ⟨f, hr⟩ := open' w b hr
      exact (put_next w b _ m 0 false f 35 m 0 false f (nxR b) 0 enA hr (ahead_rem w b m 0 false f 35 c0 c1 rfl hr)).mono (fin w b 0 f (nxR b) (fun _ => rfl) (fun _ => rfl) (fun h => absurd h (by simp)))
    by_cases hb : Tk.blank c = true
    · have ht' : t = ⟨0, 0, 9, false⟩ := by rw [← ht]; simp [Tk.put, hc, hb]
      subst ht'
      refine ⟨fun w b hr => ?_, fun w => ?_⟩
      · obtain ⟨f, hr⟩ := open' w b hr
        exact (put_next w b _ m 0 false f c m 0 false f (nxA b) 0 enA hr (ahead_blank w b m 0 false f c c0 c1 hb hr)).mono (fin w b 0 f (nxA b) (fun _ => rfl) (fun _ => rfl) (fun h => absurd h (by simp)))
      · by_cases hl : Tk.line c = true
        · rcases yl hl with rfl | rfl
          · exact rp_a10 0 m 9 w
          · exact rp_a13 0 m 9 w
        · obtain ⟨a1, a2⟩ := nl (by simpa using hl)
          exact rp_a_blank 0 m 9 c c0 c1 a1 a2 (by simpa using hc) hb w
    have hb' : Tk.blank c = false := by simpa using hb
    have hnl : Tk.line c = false := by
      cases e : Tk.line c with
      | false => rfl
      | true => rcases yl e with rfl | rfl <;> exact absurd hb' (by decide)
    obtain ⟨a1, a2⟩ := nl hnl
    obtain ⟨p, hp⟩ : ∃ p, Nu.stepV 0 c m = p := ⟨_, rfl⟩
    obtain ⟨v, er⟩ := p
    by_cases he : er = 0
    · subst he
      have ht' : t = ⟨2, v, 9, true⟩ := by rw [← ht]; simp [Tk.put, hc, hb', hp]
      subst ht'
      refine ⟨fun w b hr => ?_, fun w => rp_a_yes 0 m 9 c c0 c1 a1 a2 (by simpa using hc) hb' h2 h3 m1 v hp w⟩
      obtain ⟨f, hr⟩ := open' w b hr
      exact (put_next w b _ m 0 false f c m v true f (nxD b) 0 enA hr (ahead_yes w b m 0 false f c c0 c1 hb' hc h2 h3 m1 v hp hr)).mono (fin w b v f (nxD b) (fun _ => rfl) (fun _ => rfl) (fun h => absurd h (by simp)))
    · have ht' : t = ⟨5, 0, er, false⟩ := by rw [← ht]; simp [Tk.put, hc, hb', hp, he]
      subst ht'
      refine ⟨fun w b hr => ?_, fun w => rp_a_no 0 m 9 c c0 c1 a1 a2 (by simpa using hc) hb' h2 h3 m1 v er hp he w⟩
      obtain ⟨f, hr⟩ := open' w b hr
      exact (put_next w b _ m 0 false f c m 0 false er (nxD b) 2 enA hr (ahead_no w b m 0 false f c c0 c1 hb' hc h2 h3 m1 v er hp he hr)).mono (fin w b 0 er (nxD b) (fun _ => rfl) (fun h => absurd h (by simp)) (fun _ => rfl))
  · -- a remark ahead
    obtain ⟨rfl, rfl⟩ := h7 (by omega)
    have h9 := h4 (by omega); subst h9
    have open' : ∀ w b, RdS w b m ⟨1, 0, 9, false⟩ → ∃ f, RdC w b m 0 false 0 f (nxR b) := fun w b hr => by
      obtain ⟨_, v, f, x, r1, r2, r3, _⟩ := hr
      have := r2 (by simp); simp only at this; subst this
      have := r3 (by simp); subst this
      exact ⟨f, r1⟩
    by_cases hl : Tk.line c = true
    · have ht' : t = ⟨0, 0, 9, false⟩ := by rw [← ht]; simp [Tk.put, hl]
      subst ht'
      refine ⟨fun w b hr => ?_, fun w => ?_⟩
      · obtain ⟨f, hr⟩ := open' w b hr
        exact (put_next w b _ m 0 false f c m 0 false f (nxA b) 0 enR hr (remA_line w b m 0 false f c c0 c1 hl hr)).mono (fin w b 0 f (nxA b) (fun _ => rfl) (fun _ => rfl) (fun h => absurd h (by simp)))
      · rcases yl hl with rfl | rfl
        · exact rp_remA10 0 m 9 w
        · exact rp_remA13 0 m 9 w
    · have hl' : Tk.line c = false := by simpa using hl
      have ht' : t = ⟨1, 0, 9, false⟩ := by rw [← ht]; simp [Tk.put, hl']
      subst ht'
      obtain ⟨a1, a2⟩ := nl hl'
      refine ⟨fun w b hr => ?_, fun w => rp_remA_not 0 m 9 c c0 c1 a1 a2 w⟩
      obtain ⟨f, hr⟩ := open' w b hr
      exact (put_next w b _ m 0 false f c m 0 false f (nxR b) 0 enR hr (remA_not w b m 0 false f c c0 c1 hl' hr)).mono (fin w b 0 f (nxR b) (fun _ => rfl) (fun _ => rfl) (fun h => absurd h (by simp)))
  · -- digits
    have hbg := h8 (by omega) (by omega); subst hbg
    have h9 := h4 (by omega); subst h9
    have open' : ∀ w b, RdS w b m ⟨2, n, 9, true⟩ → ∃ f, RdC w b m n true 0 f (nxD b) := fun w b hr => by
      obtain ⟨_, v, f, x, r1, r2, r3, _⟩ := hr
      have := r2 (by simp); simp only at this; subst this
      have := r3 (by simp); subst this
      exact ⟨f, r1⟩
    by_cases hc : c = 35
    · subst hc
      have ht' : t = ⟨3, n, 9, true⟩ := by rw [← ht]; rfl
      subst ht'
      refine ⟨fun w b hr => ?_, fun w => rp_d35 n m 9 w⟩
      obtain ⟨f, hr⟩ := open' w b hr
      exact (put_next w b _ m n true f 35 m n true f (nxB b) 0 enD hr (digit_rem w b m n true f 35 c0 c1 rfl hr)).mono (fin w b n f (nxB b) (fun _ => rfl) (fun _ => rfl) (fun h => absurd h (by simp)))
    by_cases hb : Tk.blank c = true
    · have ht' : t = ⟨4, n, 0, true⟩ := by rw [← ht]; simp [Tk.put, hc, hb]
      subst ht'
      refine ⟨fun w b hr => ?_, fun w => ?_⟩
      · obtain ⟨f, hr⟩ := open' w b hr
        exact (put_next w b _ m n true f c m n true f (nxD b) 1 enD hr (digit_blank w b m n true f c c0 c1 hb hr)).mono (fin w b n f (nxD b) (fun _ => rfl) (fun h => absurd h (by simp)) (fun h => absurd h (by simp)))
      · by_cases hl : Tk.line c = true
        · rcases yl hl with rfl | rfl
          · exact rp_d10 n m 9 w
          · exact rp_d13 n m 9 w
        · obtain ⟨a1, a2⟩ := nl (by simpa using hl)
          exact rp_d_blank n m 9 c c0 c1 a1 a2 (by simpa using hc) hb w
    have hb' : Tk.blank c = false := by simpa using hb
    have hnl : Tk.line c = false := by
      cases e : Tk.line c with
      | false => rfl
      | true => rcases yl e with rfl | rfl <;> exact absurd hb' (by decide)
    obtain ⟨a1, a2⟩ := nl hnl
    obtain ⟨p, hp⟩ : ∃ p, Nu.stepV n c m = p := ⟨_, rfl⟩
    obtain ⟨v, er⟩ := p
    by_cases he : er = 0
    · subst he
      have ht' : t = ⟨2, v, 9, true⟩ := by rw [← ht]; simp [Tk.put, hc, hb', hp]
      subst ht'
      refine ⟨fun w b hr => ?_, fun w => rp_d_yes n m 9 c c0 c1 a1 a2 (by simpa using hc) hb' h2 h3 m1 v hp w⟩
      obtain ⟨f, hr⟩ := open' w b hr
      exact (put_next w b _ m n true f c m v true f (nxD b) 0 enD hr (digit_yes w b m n true f c c0 c1 hb' hc h2 h3 m1 v hp hr)).mono (fin w b v f (nxD b) (fun _ => rfl) (fun _ => rfl) (fun h => absurd h (by simp)))
    · have ht' : t = ⟨5, 0, er, true⟩ := by rw [← ht]; simp [Tk.put, hc, hb', hp, he]
      subst ht'
      refine ⟨fun w b hr => ?_, fun w => rp_d_no n m 9 c c0 c1 a1 a2 (by simpa using hc) hb' h2 h3 m1 v er hp he w⟩
      obtain ⟨f, hr⟩ := open' w b hr
      exact (put_next w b _ m n true f c m n true er (nxD b) 2 enD hr (digit_no w b m n true f c c0 c1 hb' hc h2 h3 m1 v er hp he hr)).mono (fin w b n er (nxD b) (fun h => absurd h (by simp)) (fun h => absurd h (by simp)) (fun _ => rfl))
  · -- a remark behind
    have hbg := h8 (by omega) (by omega); subst hbg
    have h9 := h4 (by omega); subst h9
    have open' : ∀ w b, RdS w b m ⟨3, n, 9, true⟩ → ∃ f, RdC w b m n true 0 f (nxB b) := fun w b hr => by
      obtain ⟨_, v, f, x, r1, r2, r3, _⟩ := hr
      have := r2 (by simp); simp only at this; subst this
      have := r3 (by simp); subst this
      exact ⟨f, r1⟩
    by_cases hl : Tk.line c = true
    · have ht' : t = ⟨4, n, 0, true⟩ := by rw [← ht]; simp [Tk.put, hl]
      subst ht'
      refine ⟨fun w b hr => ?_, fun w => ?_⟩
      · obtain ⟨f, hr⟩ := open' w b hr
        exact (put_next w b _ m n true f c m n true f (nxB b) 1 enB hr (remB_line w b m n true f c c0 c1 hl hr)).mono (fin w b n f (nxB b) (fun _ => rfl) (fun h => absurd h (by simp)) (fun h => absurd h (by simp)))
      · rcases yl hl with rfl | rfl
        · exact rp_remB10 n m 9 w
        · exact rp_remB13 n m 9 w
    · have hl' : Tk.line c = false := by simpa using hl
      have ht' : t = ⟨3, n, 9, true⟩ := by rw [← ht]; simp [Tk.put, hl']
      subst ht'
      obtain ⟨a1, a2⟩ := nl hl'
      refine ⟨fun w b hr => ?_, fun w => rp_remB_not n m 9 c c0 c1 a1 a2 w⟩
      obtain ⟨f, hr⟩ := open' w b hr
      exact (put_next w b _ m n true f c m n true f (nxB b) 0 enB hr (remB_not w b m n true f c c0 c1 hl' hr)).mono (fin w b n f (nxB b) (fun _ => rfl) (fun _ => rfl) (fun h => absurd h (by simp)))
  · -- over
    have ht' : t = ⟨4, n, e, bg⟩ := by rw [← ht]; rfl
    subst ht'
    refine ⟨fun w b hr => ?_, fun w => rp_over n m e c w⟩
    have hr' := hr
    obtain ⟨_, v, f, x, r1, _⟩ := hr
    refine (put_done w b m v bg f c 1 x (by decide) r1).mono ?_
    rintro e' w' ⟨rfl, rfl⟩
    exact ⟨rfl, hr', .refl _ _⟩
  · -- wrong
    have ht' : t = ⟨5, n, e, bg⟩ := by rw [← ht]; rfl
    subst ht'
    refine ⟨fun w b hr => ?_, fun w => rp_wrong n m e c w⟩
    have hr' := hr
    obtain ⟨_, v, f, x, r1, _⟩ := hr
    refine (put_done w b m v bg f c 2 x (by decide) r1).mono ?_
    rintro e' w' ⟨rfl, rfl⟩
    exact ⟨rfl, hr', .refl _ _⟩
end Go.Proofs.YtooilemglmndeaaGreat

/- A reader of a head in a block of its own, over any memory: what it is made of; where a number may be at most, as a function made for it. No condition. -/
namespace Go.Proofs.YtooilemglmndeaaGreat
open Go.RowKit
set_option linter.unusedVariables false

/-- the twelve cells of a reader of a head -/
def HdC (w : World) (b : Nat) (kd m0 m1 m2 v0 v1 v2 i : Int) (nv : Value) (t f : Int) (x : Value) : Prop :=
  w.heap[b]? = some (.cells #[.int .i64 kd, .int .i64 m0, .int .i64 m1, .int .i64 m2, .int .i64 v0, .int .i64 v1, .int .i64 v2, .int .i64 i, nv, .int .i64 t, .int .i64 f, x] 207 (0, 0))
section
variable {w w' : World} {b : Nat} {kd m0 m1 m2 v0 v1 v2 i : Int} {nv : Value} {t f : Int} {x : Value}
theorem HdC.lt (h : HdC w b kd m0 m1 m2 v0 v1 v2 i nv t f x) : b < w.heap.size := (Array.getElem?_eq_some_iff.1 h).1
theorem HdC.later (h : HdC w b kd m0 m1 m2 v0 v1 v2 i nv t f x) (hb : Below w.heap.size w w') : HdC w' b kd m0 m1 m2 v0 v1 v2 i nv t f x := (hb.block b h.lt).trans h
theorem HdC.kept {row : Option Nat} (h : HdC w b kd m0 m1 m2 v0 v1 v2 i nv t f x) (hg : w.grownBy w' row) (hne : some b ≠ row) : HdC w' b kd m0 m1 m2 v0 v1 v2 i nv t f x := (hg.block b h.lt hne).trans h
theorem HdC.sep {Z : Nat → Prop} (h : HdC w b kd m0 m1 m2 v0 v1 v2 i nv t f x) (hs : Sep Z w w') (hz : ¬ Z b) : HdC w' b kd m0 m1 m2 v0 v1 v2 i nv t f x := (hs.block b h.lt hz).trans h
theorem HdC.drewN (h : HdC w b kd m0 m1 m2 v0 v1 v2 i nv t f x) (k : Nat) : HdC (w.drewN k) b kd m0 m1 m2 v0 v1 v2 i nv t f x := h
theorem HdC.fr (h : HdC w b kd m0 m1 m2 v0 v1 v2 i nv t f x) (o : Nat) : w.frozen? ⟨b, o, none⟩ = false := by have h' : w.heap[b]? = _ := h; simp [World.frozen?, h']
theorem HdC.c0 (h : HdC w b kd m0 m1 m2 v0 v1 v2 i nv t f x) : w.cell? ⟨b, 0, none⟩ = some (.int .i64 kd) := by have h' : w.heap[b]? = _ := h; simp [World.cell?, h']
theorem HdC.c1 (h : HdC w b kd m0 m1 m2 v0 v1 v2 i nv t f x) : w.cell? ⟨b, 1, none⟩ = some (.int .i64 m0) := by have h' : w.heap[b]? = _ := h; simp [World.cell?, h']
theorem HdC.c2 (h : HdC w b kd m0 m1 m2 v0 v1 v2 i nv t f x) : w.cell? ⟨b, 2, none⟩ = some (.int .i64 m1) := by have h' : w.heap[b]? = _ := h; simp [World.cell?, h']
theorem HdC.c3 (h : HdC w b kd m0 m1 m2 v0 v1 v2 i nv t f x) : w.cell? ⟨b, 3, none⟩ = some (.int .i64 m2) := by have h' : w.heap[b]? = _ := h; simp [World.cell?, h']
theorem HdC.c4 (h : HdC w b kd m0 m1 m2 v0 v1 v2 i nv t f x) : w.cell? ⟨b, 4, none⟩ = some (.int .i64 v0) := by have h' : w.heap[b]? = _ := h; simp [World.cell?, h']
theorem HdC.c5 (h : HdC w b kd m0 m1 m2 v0 v1 v2 i nv t f x) : w.cell? ⟨b, 5, none⟩ = some (.int .i64 v1) := by have h' : w.heap[b]? = _ := h; simp [World.cell?, h']
theorem HdC.c6 (h : HdC w b kd m0 m1 m2 v0 v1 v2 i nv t f x) : w.cell? ⟨b, 6, none⟩ = some (.int .i64 v2) := by have h' : w.heap[b]? = _ := h; simp [World.cell?, h']
theorem HdC.c7 (h : HdC w b kd m0 m1 m2 v0 v1 v2 i nv t f x) : w.cell? ⟨b, 7, none⟩ = some (.int .i64 i) := by have h' : w.heap[b]? = _ := h; simp [World.cell?, h']
theorem HdC.c8 (h : HdC w b kd m0 m1 m2 v0 v1 v2 i nv t f x) : w.cell? ⟨b, 8, none⟩ = some (nv) := by have h' : w.heap[b]? = _ := h; simp [World.cell?, h']
theorem HdC.c9 (h : HdC w b kd m0 m1 m2 v0 v1 v2 i nv t f x) : w.cell? ⟨b, 9, none⟩ = some (.int .i64 t) := by have h' : w.heap[b]? = _ := h; simp [World.cell?, h']
theorem HdC.c10 (h : HdC w b kd m0 m1 m2 v0 v1 v2 i nv t f x) : w.cell? ⟨b, 10, none⟩ = some (.int .i64 f) := by have h' : w.heap[b]? = _ := h; simp [World.cell?, h']
theorem HdC.c11 (h : HdC w b kd m0 m1 m2 v0 v1 v2 i nv t f x) : w.cell? ⟨b, 11, none⟩ = some (x) := by have h' : w.heap[b]? = _ := h; simp [World.cell?, h']
theorem HdC.put0 (h : HdC w b kd m0 m1 m2 v0 v1 v2 i nv t f x) (y : Int) : HdC (w.setCell ⟨b, 0, none⟩ (.int .i64 y)) b y m0 m1 m2 v0 v1 v2 i nv t f x := by
  have h' : w.heap[b]? = _ := h
  simpa [HdC] using Go.heap_setCell_same w b 0 _ _ (.int .i64 y) h'
theorem HdC.put4 (h : HdC w b kd m0 m1 m2 v0 v1 v2 i nv t f x) (y : Int) : HdC (w.setCell ⟨b, 4, none⟩ (.int .i64 y)) b kd m0 m1 m2 y v1 v2 i nv t f x := by
  have h' : w.heap[b]? = _ := h
  simpa [HdC] using Go.heap_setCell_same w b 4 _ _ (.int .i64 y) h'
theorem HdC.put5 (h : HdC w b kd m0 m1 m2 v0 v1 v2 i nv t f x) (y : Int) : HdC (w.setCell ⟨b, 5, none⟩ (.int .i64 y)) b kd m0 m1 m2 v0 y v2 i nv t f x := by
  have h' : w.heap[b]? = _ := h
  simpa [HdC] using Go.heap_setCell_same w b 5 _ _ (.int .i64 y) h'
theorem HdC.put6 (h : HdC w b kd m0 m1 m2 v0 v1 v2 i nv t f x) (y : Int) : HdC (w.setCell ⟨b, 6, none⟩ (.int .i64 y)) b kd m0 m1 m2 v0 v1 y i nv t f x := by
  have h' : w.heap[b]? = _ := h
  simpa [HdC] using Go.heap_setCell_same w b 6 _ _ (.int .i64 y) h'
theorem HdC.put7 (h : HdC w b kd m0 m1 m2 v0 v1 v2 i nv t f x) (y : Int) : HdC (w.setCell ⟨b, 7, none⟩ (.int .i64 y)) b kd m0 m1 m2 v0 v1 v2 y nv t f x := by
  have h' : w.heap[b]? = _ := h
  simpa [HdC] using Go.heap_setCell_same w b 7 _ _ (.int .i64 y) h'
theorem HdC.put8 (h : HdC w b kd m0 m1 m2 v0 v1 v2 i nv t f x) (y : Value) : HdC (w.setCell ⟨b, 8, none⟩ (y)) b kd m0 m1 m2 v0 v1 v2 i y t f x := by
  have h' : w.heap[b]? = _ := h
  simpa [HdC] using Go.heap_setCell_same w b 8 _ _ (y) h'
theorem HdC.put9 (h : HdC w b kd m0 m1 m2 v0 v1 v2 i nv t f x) (y : Int) : HdC (w.setCell ⟨b, 9, none⟩ (.int .i64 y)) b kd m0 m1 m2 v0 v1 v2 i nv y f x := by
  have h' : w.heap[b]? = _ := h
  simpa [HdC] using Go.heap_setCell_same w b 9 _ _ (.int .i64 y) h'
theorem HdC.put10 (h : HdC w b kd m0 m1 m2 v0 v1 v2 i nv t f x) (y : Int) : HdC (w.setCell ⟨b, 10, none⟩ (.int .i64 y)) b kd m0 m1 m2 v0 v1 v2 i nv t y x := by
  have h' : w.heap[b]? = _ := h
  simpa [HdC] using Go.heap_setCell_same w b 10 _ _ (.int .i64 y) h'
theorem HdC.put11 (h : HdC w b kd m0 m1 m2 v0 v1 v2 i nv t f x) (y : Value) : HdC (w.setCell ⟨b, 11, none⟩ (y)) b kd m0 m1 m2 v0 v1 v2 i nv t f y := by
  have h' : w.heap[b]? = _ := h
  simpa [HdC] using Go.heap_setCell_same w b 11 _ _ (y) h'
end
def nxH1 (b : Nat) : Value := .func (.func 138) #[.pointer (some ⟨b, 0, none⟩)] #[]
theorem enH1 : ∀ args w, (callFunc 138 args).run Tryz.prog w = .ok (.enter 138 args) w := enters_of Tryz.func138 (by kernel_rfl) rfl
def nxH2 (b : Nat) : Value := .func (.func 177) #[.pointer (some ⟨b, 0, none⟩)] #[]
theorem enH2 : ∀ args w, (callFunc 177 args).run Tryz.prog w = .ok (.enter 177 args) w := enters_of Tryz.func177 (by kernel_rfl) rfl
def nxH3 (b : Nat) : Value := .func (.func 196) #[.pointer (some ⟨b, 0, none⟩)] #[]
theorem enH3 : ∀ args w, (callFunc 196 args).run Tryz.prog w = .ok (.enter 196 args) w := enters_of Tryz.func196 (by kernel_rfl) rfl
def nxHN (b : Nat) : Value := .func (.func 211) #[.pointer (some ⟨b, 0, none⟩)] #[]
theorem enHN : ∀ args w, (callFunc 211 args).run Tryz.prog w = .ok (.enter 211 args) w := enters_of Tryz.func211 (by kernel_rfl) rfl

/-- a function that brings a number to where it may be -/
def UpV (w : World) (v : Value) (m : Int) : Prop := ∃ b, v = .func (.func 175) #[] #[.pointer (some ⟨b, 0, none⟩)] ∧ w.cell? ⟨b, 0, none⟩ = some (.int .i64 m)
theorem UpV.later {w w' : World} {v : Value} {m : Int} (h : UpV w v m) (hb : Below w.heap.size w w') : UpV w' v m := by
  obtain ⟨b, h1, h2⟩ := h; exact ⟨b, h1, cell_later hb h2⟩
set_option maxHeartbeats 1000000 in
theorem upTo_any (m : Int) (w : World) :
    Calls Tryz.prog 137 #[.int .i64 m] w fun e w' => ∃ v, e = .returned v ∧ UpV w' v m ∧ Below w.heap.size w w' := by
  go_enter Tryz.func137, Tryz.ntmps137
  go_wp2
  go_ret
  exact ⟨_, rfl, ⟨_, rfl, by simp [go_sem]⟩, by go_grown⟩
set_option maxHeartbeats 1000000 in
theorem upTo1_any (n m : Int) (m1 : 1 ≤ m) (b : Nat) (w : World) (hc : w.cell? ⟨b, 0, none⟩ = some (.int .i64 m)) :
    Calls Tryz.prog 175 #[.int .i64 n, .pointer (some ⟨b, 0, none⟩)] w fun e w' => e = .returned (.int .i64 (Hd.lim n m)) ∧ w = w' := by
  by_cases h1 : n < 1
  · have hmm : min (max n 1) m = 1 := by omega
    have X := Lib.hid (show Hd.lim n m = 1 by unfold Hd.lim; rw [if_pos h1])
    have h2 : ¬ m < 1 := by omega
    go_enter Tryz.func175, Tryz.ntmps175
    go_wp2
    go_ret
    exact ⟨Ar.ret_i X.out.symm, rfl⟩
  by_cases h2 : m < n
  · have hmm : min (max n 1) m = m := by omega
    have X := Lib.hid (show Hd.lim n m = m by unfold Hd.lim; rw [if_neg h1, if_pos h2])
    go_enter Tryz.func175, Tryz.ntmps175
    go_wp2
    go_ret
    exact ⟨Ar.ret_i X.out.symm, rfl⟩
  · have hmm : min (max n 1) m = n := by omega
    have X := Lib.hid (show Hd.lim n m = n by unfold Hd.lim; rw [if_neg h1, if_neg h2])
    go_enter Tryz.func175, Tryz.ntmps175
    go_wp2
    go_ret
    exact ⟨Ar.ret_i X.out.symm, rfl⟩
end Go.Proofs.YtooilemglmndeaaGreat

/- A reader of a number tells its number; what a reader's block leaves of a row. Condition: its greatest number fits. -/
namespace Go.Proofs.YtooilemglmndeaaGreat
open Go.RowKit
set_option linter.unusedVariables false

theorem value_s {w : World} {b : Nat} {m : Int} {s : Tk.S} (h : RdS w b m s) :
    Calls Tryz.prog 220 #[.pointer (some ⟨b, 0, none⟩)] w fun e w' => e = .returned (.tuple #[.int .i64 (Tk.val s).1, .int .i64 (Tk.val s).2]) ∧ w.grownBy w' none := by
  obtain ⟨⟨h1, h2, h3, h4, h5, h6, h7, h8⟩, v, f, x, r1, r2, r3, r4⟩ := h
  obtain ⟨k, n, er, bg⟩ := s
  simp only at h1 h2 h3 h4 h5 h6 h7 h8 r2 r3 r4
  by_cases k4 : k = 4
  · subst k4
    have hv := r2 (by omega)
    have he := h5 rfl
    subst hv he
    have r1' : RdC w b m v bg 1 f x := r1
    have hc1 := r1'.c1
    have hc3 := r1'.c3
    clear r1 r1' r2 r3 r4 h1 h2 h3 h4 h5 h6 h7 h8
    go_enter Tryz.func220, Tryz.ntmps220
    go_wp2
    go_ret2
    exact ⟨rfl, .refl _ _⟩
  by_cases k5 : k = 5
  · subst k5
    have hf := r4 rfl
    have he : er ≠ 0 := by have := h6 rfl; omega
    subst hf
    have r1' : RdC w b m v bg 2 f x := r1
    have X : Hid (Tk.val ⟨5, n, f, bg⟩ = (0, f)) := by show _ = _; unfold Tk.val; exact if_neg he
    have hc4 := r1'.c4
    have hc3 := r1'.c3
    clear r1 r1' r2 r3 r4 h1 h2 h3 h4 h5 h6 h7 h8 he
    go_enter Tryz.func220, Tryz.ntmps220
    go_wp2_with (go_quiet (fail))
    go_ret2
    exact ⟨(by rw [X.out]; rfl), grown_drew _ _ _⟩
  · have he := h4 (by omega)
    subst he
    have hst : Tk.st ⟨k, n, 9, bg⟩ = 0 := by unfold Tk.st; simp [k4, k5]
    rw [hst] at r1
    have hc3 := r1.c3
    clear r1 r2 r3 r4 h1 h2 h3 h4 h5 h6 h7 h8 hst
    go_enter Tryz.func220, Tryz.ntmps220
    go_wp2
    go_ret2
    exact ⟨rfl, .refl _ _⟩
theorem RdS.not_row {w : World} {b : Nat} {m : Int} {s : Tk.S} (h : RdS w b m s) {e : TypeId} (hte : 291 ≠ e) {base size k : Nat} {v : Value} {xs : List Value} (hr : w.ownsRow base e size v k xs) : some b ≠ v.ownBlock := by
  obtain ⟨_, _, f, x, h1, _⟩ := h
  have h1' : w.heap[b]? = _ := h1
  rcases hr.2 with ⟨hv, _⟩ | ⟨j, cap, cur, hv, _, hj, _⟩
  · rw [hv]; simp [Value.ownBlock]
  · rw [hv]; intro e2
    have e2 : b = j := by simpa [Value.ownBlock] using e2
    subst e2
    rw [h1'] at hj
    injection hj with hj
    injection hj with _ ht _
    exact hte ht
end Go.Proofs.YtooilemglmndeaaGreat

/- A row's own bytes, and its pixels, over any memory. Condition: numbers fit their kinds. -/
namespace Go.Proofs.YtooilemglmndeaaGreat
open Go.RowKit Go.Shelf
attribute [local go_sem] Oper.semAt_some
set_option linter.unusedVariables false
namespace Bt
theorem rowOf_no (a : Option Addr) (len cap : Nat) (W : Int) (hl : len ≤ 9223372036854775807) (h : rowE len W ≠ 0) (w : World) :
    Calls Tryz.prog 213 #[.slice a len cap, .int .i64 W] w fun e w' => e = .returned (.tuple #[.slice none 0 0, .int .i64 (rowE len W)]) ∧ w = w' := by
  obtain ⟨n, hn⟩ : ∃ n, bytesV W = n := ⟨_, rfl⟩
  have HN := Lib.hid hn
  unfold rowE at h ⊢
  rw [hn] at h ⊢
  clear hn
  by_cases h0 : n = 0
  · have h0b : (n == 0) = true := by simpa using h0
    have X := Lib.hid (show (1 : Int) = (if n = 0 then 1 else if (len : Int) < n then 6 else 0) by rw [if_pos h0])
    rw [← X.out]
    clear h
    go_enter Tryz.func213, Tryz.ntmps213
    go_wp2_with (first | (go_at_call 204; refine (bytes_any _ _).mono ?_; rw [HN.out]; rintro e w1 ⟨rfl, rfl⟩))
    go_ret2
    exact ⟨rfl, rfl⟩
  · have h0b : (n == 0) = false := by simpa using h0
    by_cases h1 : (len : Int) < n
    · have X := Lib.hid (show (6 : Int) = (if n = 0 then 1 else if (len : Int) < n then 6 else 0) by rw [if_neg h0, if_pos h1])
      rw [← X.out]
      clear h
      go_enter Tryz.func213, Tryz.ntmps213
      go_wp2_with (first | (go_at_call 204; refine (bytes_any _ _).mono ?_; rw [HN.out]; rintro e w1 ⟨rfl, rfl⟩))
      go_ret2
      exact ⟨rfl, rfl⟩
    · rw [if_neg h0, if_neg h1] at h
      exact absurd rfl h
theorem rowOf_yes (b o : Nat) (len cap n : Nat) (W : Int) (hl : len ≤ cap) (hc : cap ≤ 9223372036854775807) (hn : bytesV W = n) (h1 : 1 ≤ n) (h2 : n ≤ len) (w : World) :
    Calls Tryz.prog 213 #[.slice (some ⟨b, o, none⟩) len cap, .int .i64 W] w fun e w' => e = .returned (.tuple #[.slice (some ⟨b, o, none⟩) n cap, .int .i64 0]) ∧ w = w' := by
  have HN := Lib.hid hn; clear hn
  have h0b : ((n : Int) == 0) = false := by simp; omega
  have h3 : ¬ (len : Int) < n := by omega
  have h4 : ¬ len < n := by omega
  go_enter Tryz.func213, Tryz.ntmps213
  go_wp2_with (first | (go_at_call 204; refine (bytes_any _ _).mono ?_; rw [HN.out]; rintro e w1 ⟨rfl, rfl⟩))
  go_ret2
  exact ⟨rfl, rfl⟩
theorem ownsRow_same {A B : World} {base size n cap g : Nat} {e : TypeId} {xs : List Value} (h : A.ownsRow base e size (.slice (some ⟨g, 0, none⟩) n cap) n xs) (hb : B.heap[g]? = A.heap[g]?) : B.ownsRow base e size (.slice (some ⟨g, 0, none⟩) n cap) n xs := by
  obtain ⟨h1, h2⟩ := h
  refine ⟨h1, ?_⟩
  rcases h2 with ⟨h2, _⟩ | ⟨g', cap', cur, h2, hg, hc, r⟩
  · cases h2
  · cases h2
    exact .inr ⟨g, cap, cur, rfl, hg, hb.trans hc, r⟩
theorem ownsRow_blk {A : World} {base size n cap g : Nat} {e : TypeId} {xs : List Value} (h : A.ownsRow base e size (.slice (some ⟨g, 0, none⟩) n cap) n xs) : base ≤ g ∧ g < A.heap.size := h.lt g rfl
/-- 'x = append(x, ..)' within the capacity, x in a cell of its own, in a round: all that the round owes. -/
theorem fitted {W w1 : World} {base B g : Nat} {t e : TypeId} {k m cap : Nat} {xs ys : List Value} {tmp : Obj}
    (hv : Boxed W B t (.slice (some ⟨g, 0, none⟩) k cap)) (hte : t ≠ e) (hrow : W.ownsRow base e 1 (.slice (some ⟨g, 0, none⟩) k cap) k xs) (hown' : w1.ownsRow base e 1 (.slice (some ⟨g, 0, none⟩) m cap) m ys) (hgrow : (W.alloc tmp).grownBy w1 (some g)) :
    Boxed w1 B t (.slice (some ⟨g, 0, none⟩) k cap) ∧ Boxed (w1.setCell ⟨B, 0, none⟩ (.slice (some ⟨g, 0, none⟩) m cap)) B t (.slice (some ⟨g, 0, none⟩) m cap) ∧ (w1.setCell ⟨B, 0, none⟩ (.slice (some ⟨g, 0, none⟩) m cap)).ownsRow base e 1 (.slice (some ⟨g, 0, none⟩) m cap) m ys ∧
    (∀ Z : Nat → Prop, ¬ Z B → ¬ Z g → Hold Z W (w1.setCell ⟨B, 0, none⟩ (.slice (some ⟨g, 0, none⟩) m cap))) ∧
    (∀ m', m' ≤ B → m' ≤ base → m' ≤ W.heap.size → Below m' W (w1.setCell ⟨B, 0, none⟩ (.slice (some ⟨g, 0, none⟩) m cap))) := by
  have hb : base ≤ g := (ownsRow_blk hrow).1
  have hne : some B ≠ some g := hv.not_row hte hrow
  have hv1 : Boxed w1 B t (.slice (some ⟨g, 0, none⟩) k cap) := (hv.alloc tmp).kept hgrow hne
  refine ⟨hv1, hv1.set _, hown'.kept (grownBy_setCell' w1 B _) (.inr (hv1.not_row hte hown').symm), fun Z hz hzg => ?_, fun m' h1 h2 h3 => ?_⟩
  · exact ((Hold.alloc Z W tmp).trans (.grown hgrow fun j ej => by cases ej; exact hzg)).trans (.setCell _ hz _)
  · exact (((Below.refl m' W).alloc h3 tmp).grown hgrow (by simp; omega) fun j ej => by cases ej; exact Nat.le_trans h2 hb).setCell (p := ⟨B, 0, none⟩) h1 _
def UnpR (xs : List Int) (er : Int) (w : World) (e : Ending) (w' : World) : Prop :=
  ∃ ad cap, e = .returned (.tuple #[.slice ad xs.length cap, .int .i64 er]) ∧ w'.ownsRow w.heap.size 3 1 (.slice ad xs.length cap) xs.length (xs.map (Value.int .i64)) ∧ Below w.heap.size w w'
theorem Tryz.info_int : (Tryz.prog.info? 3).map (fun i => (i.zero, i.size, i.bytes)) = some (some (.int .i64 0), 1, 8) := by kernel_rfl
set_option maxRecDepth 100000 in
theorem unpack_no (a : Option Addr) (len cap : Nat) (W : Int) (hl : len ≤ 9223372036854775807) (h : rowE len W ≠ 0) (w : World) :
    Calls Tryz.prog 199 #[.slice a len cap, .int .i64 W] w fun e w' => e = .returned (.tuple #[.slice none 0 0, .int .i64 (rowE len W)]) ∧ w = w' := by
  have hk : (rowE len W != 0) = true := by simpa using h
  have H := Lib.hid h; clear h
  obtain ⟨r, hr⟩ : ∃ r, rowE len W = r := ⟨_, rfl⟩
  have HR := Lib.hid hr
  rw [hr] at hk ⊢
  clear hr
  refine calls_of_marks Tryz.func199 rfl ?_
  simp only [Tryz.ntmps199, List.size_toArray, List.length_cons, List.length_nil, Nat.reduceAdd, Nat.reduceSub, Array.replicate_succ, Array.replicate_zero, List.push_toArray, List.append_toArray, List.nil_append, List.cons_append]
  go_wp2_with (first | (go_at_call 213; refine (rowOf_no _ _ _ _ hl H.out _).mono ?_; rw [HR.out]; rintro e w1 ⟨rfl, rfl⟩))
  exact ⟨_, results_tmp2 rfl _ _ _, rfl, rfl⟩
set_option maxRecDepth 100000 in
set_option maxHeartbeats 2000000 in
theorem unpack_yes (zs : List Int) (b o len cap n W : Nat) (hzs : zs.length = n) (hby : ∀ z ∈ zs, 0 ≤ z ∧ z ≤ 255) (hl : len ≤ cap) (hc : cap ≤ 9223372036854775807) (hn : bytesV W = n) (h1 : 1 ≤ n) (h2 : n ≤ len) (hn2 : n ≤ 4096) (hW1 : W ≤ 8 * n) (hW2 : 8 * n < W + 8) (w : World)
    (hr : ∀ i, i < n → w.cell? ⟨b, o + i, none⟩ = some (.int .u8 (zs.getD i 0))) :
    Calls Tryz.prog 199 #[.slice (some ⟨b, o, none⟩) len cap, .int .i64 W] w (UnpR ((bitsOf zs).take W) 0 w) := by
  obtain ⟨i0, hi, hz0, hz1, hz2⟩ := info_parts Tryz.info_int
  have HR := Lib.hid hr; clear hr
  have HN := Lib.hid hn; clear hn
  have W0 : (0 : Int) ≤ W := Int.natCast_nonneg _
  refine calls_of_marks Tryz.func199 rfl ?_
  simp only [Tryz.ntmps199, List.size_toArray, List.length_cons, List.length_nil, Nat.reduceAdd, Nat.reduceSub, Array.replicate_succ, Array.replicate_zero, List.push_toArray, List.append_toArray, List.nil_append, List.cons_append]
  go_wp2_with (first
    | (go_at_call 213; refine (rowOf_yes _ _ _ _ n _ hl hc HN.out h1 h2 _).mono ?_; rintro e w1 ⟨rfl, rfl⟩)
    | (at_make; refine wpList_make_own _ rfl _ _ 25 rfl w.heap.size 3 i0 (.int .i64 0) 1 Tryz.underlying25 hi hz0 hz1 .i64 .i64 (W : Int) W rfl rfl rfl (by rw [hz2]; omega) (by unfold maxLen; omega) (Nat.le_refl _) ?_; intro w1 hown hgrow; have hb1 : Below w.heap.size w w1 := (Below.refl _ w).grown hgrow (Nat.le_refl _) (by simp); have HO := Lib.hid hown; clear hown)
    | (go_at_call 214; refine (pixels_made _ _ _ _ _).mono ?_; rintro e w2 ⟨nb, bb, rfl, hne, l1, l2, cn, cb, hb⟩))
  simp only [World.size_alloc] at l1 l2
  have hbw : b < w.heap.size := by have := HR.out 0 (by omega); exact block_lt_of_cell this
  have hs1 := hb1.size
  have hs2 := hb.size
  have ln : nb < w2.heap.size := block_lt_of_cell cn
  have lb : bb < w2.heap.size := block_lt_of_cell cb
  have hg1 : w.heap.size < w1.heap.size := (ownsRow_blk HO.out).2
  obtain ⟨B, hB⟩ : ∃ B, w1.heap.size = B := ⟨_, rfl⟩
  have hv0 : Boxed w2 B 25 (.slice (some ⟨w.heap.size, 0, none⟩) 0 W) := by rw [← hB]; exact (hb.block _ (by simp)).trans (Boxed.new w1 _ _)
  have hr0 : w2.ownsRow w.heap.size 3 1 (.slice (some ⟨w.heap.size, 0, none⟩) 0 W) 0 [] := ownsRow_same (HO.out.alloc _) (hb.block _ (by simp; omega))
  have hbel : Below w.heap.size w w2 := (hb1.alloc (by omega) _).trans (hb.mono (by simp; omega))
  have hrow2 : ∀ i, i < n → w2.cell? ⟨b, o + i, none⟩ = some (.int .u8 (zs.getD i 0)) := fun i hi => cell_later hbel (HR.out i hi)
  rw [hB]
  rw [hB] at l1 l2 hg1
  simp only [World.size_alloc, hB] at hs2
  have hzB : ¬ (Zp nb bb b w2 B ∨ B = w2.heap.size ∨ B = w2.heap.size + 1) := by unfold Zp; omega
  have hyB : ¬ (Zs nb bb w2 B ∨ B = w2.heap.size ∨ B = w2.heap.size + 1) := by unfold Zs; omega
  have hzg : ¬ (Zp nb bb b w2 w.heap.size ∨ w.heap.size = w2.heap.size ∨ w.heap.size = w2.heap.size + 1) := by unfold Zp; omega
  have hyg : ¬ (Zs nb bb w2 w.heap.size ∨ w.heap.size = w2.heap.size ∨ w.heap.size = w2.heap.size + 1) := by unfold Zs; omega
  have hxl : ((bitsOf zs).take W).length = W := by rw [List.length_take, bitsOf_len]; omega
  have hGV := pixels_gives zs n W cap b o nb bb hzs hby h1 hn2 hW1 hW2 (by omega) w2 2 (by omega) cn cb hrow2
  obtain ⟨xs, hxs⟩ : ∃ xs, (bitsOf zs).take W = xs := ⟨_, rfl⟩
  rw [hxs] at hxl hGV
  have HX := Lib.hid hxs
  clear hb hB hb1 HO cn cb hxs hrow2
  refine range_wpN (gf := 222) (lb := #[.pointer (some ⟨nb, 0, none⟩), .pointer (some ⟨bb, 0, none⟩)]) rfl (enters_of Tryz.func222 (by kernel_rfl) rfl)
    hGV (by intro k; unfold Zp Zs; omega) (by unfold Zp; omega) (by unfold Zp; omega) (fun _ => rfl)
    (fun pre W' => Boxed W' B 25 (.slice (some ⟨w.heap.size, 0, none⟩) pre.length W) ∧ W'.ownsRow w.heap.size 3 1 (.slice (some ⟨w.heap.size, 0, none⟩) pre.length W) pre.length (pre.map (Value.int .i64)) ∧ Below w.heap.size w W')
    (fun _ _ _ => False) ?hI (fun _ _ _ _ hh _ => hh) ⟨hv0, hr0, hbel⟩ ?_ ?assign ?body ?done ?stop
  case hI =>
    rintro p A B' ⟨h1, h2, h4⟩ hs
    refine ⟨boxed_sep h1 hs hyB, ownsRow_same h2 (hs.block _ (ownsRow_blk h2).2 hyg), ?_⟩
    exact h4.trans (hs.below h4.size (by intro k hk; unfold Zs; omega))
  case assign =>
    intro l x W K hK
    gi_wp2
    exact hK
  case body =>
    rintro l pre x rest W' hx hlt ⟨hv, hrow, hB⟩
    have hp : pre.length + 1 ≤ W := by have := congrArg List.length hx; simp at this; omega
    clear hx hv0 hr0
    have hW := hB.size
    have hvc := hv.cell
    gi_wp2_with (gi_at_builtin; refine wpListIn_append_fits _ rfl _ _ 25 rfl w.heap.size 3 i0 1 Tryz.underlying25 hi hz1 w.heap.size pre.length W _ rfl (hrow.alloc _) ⟨W'.heap.size, 0, none⟩ 1 1 [.int .i64 x] rfl rfl (cell_one_new _ _ _) (by simp [Value.oneCell']) hp ?_; intro w5 hown' hgrow'; obtain ⟨hv1, hv2, hr2, hh2, hb2⟩ := fitted hv (by decide) hrow hown' hgrow'; have hc1 := hv1.cell; have hf1 := hv1.frozen)
    exact ⟨hh2 _ hzB hzg, by simpa using hv2, by simpa using hr2, hB.trans (hb2 _ (by omega) (Nat.le_refl _) hW)⟩
  case done =>
    rintro W' ⟨hv, hrow, hB⟩ hK
    have hvc := hv.cell
    rw [hxl] at hrow hvc
    clear hv0 hr0 hv
    go_wp2
    refine ret_mark hK (results_tmp2 rfl _ _ _) ?_
    have hlK : w2.heap.size < W'.heap.size := (Array.getElem?_eq_some_iff.1 hK).1
    rw [HX.out]
    refine ⟨some ⟨w.heap.size, 0, none⟩, W, by rw [hxl]; rfl, ?_, Below.putObj hB (by omega) _⟩
    rw [hxl]
    exact ownsRow_same hrow (World.putObj_heap_other (by omega))
  case stop =>
    rintro c pre W _ hh _
    exact hh.elim
end Bt
end Go.Proofs.YtooilemglmndeaaGreat

/- A row's pixels, how many are 1, and its spare bits, over any memory, of bits. Condition: numbers fit their kinds. -/
namespace Go.Proofs.YtooilemglmndeaaGreat
open Go.RowKit Go.Shelf
attribute [local go_sem] Oper.semAt_some
set_option linter.unusedVariables false
namespace Bt
/-- What is known of bytes that come in: a slice of them, each a byte. -/
def Bs (w : World) (a : Option Addr) (len cap : Nat) (zs : List Int) : Prop := SlK .u8 w a len zs ∧ len ≤ cap ∧ cap ≤ 9223372036854775807 ∧ ∀ z ∈ zs, 0 ≤ z ∧ z ≤ 255
theorem Bs.below {w w' : World} {a : Option Addr} {len cap : Nat} {zs : List Int} (h : Bs w a len cap zs) (hb : Below w.heap.size w w') : Bs w' a len cap zs := ⟨h.1.below hb, h.2⟩
theorem bytesV_pos {n : Nat} {W : Int} (h : rowE n W = 0) : ∃ N P : Nat, W = P ∧ bytesV W = N ∧ 1 ≤ N ∧ N ≤ n ∧ N ≤ 4096 ∧ P ≤ 8 * N ∧ 8 * N < P + 8 := by
  unfold rowE at h
  by_cases h0 : bytesV W = 0
  · rw [if_pos h0] at h; cases h
  · rw [if_neg h0] at h
    by_cases h1 : (n : Int) < bytesV W
    · rw [if_pos h1] at h; cases h
    · unfold bytesV at h0 h1 ⊢
      by_cases h2 : W < 1 ∨ 4096 < W
      · rw [if_pos h2] at h0; exact absurd rfl h0
      · rw [if_neg h2] at h1 ⊢
        exact ⟨((W + 7) / 8).toNat, W.toNat, by omega, by omega, by omega, by omega, by omega, by omega, by omega⟩
theorem bits_cut (zs : List Int) (N W : Nat) (hW : W ≤ 8 * N) : (bitsOf (zs.take N)).take W = (bitsOf zs).take W := by
  by_cases h : zs.length ≤ N
  · rw [List.take_of_length_le h]
  · conv => rhs; rw [← List.take_append_drop N zs, bitsOf_append]
    rw [List.take_append_of_le_length (by rw [bitsOf_len, List.length_take]; omega)]
/-- the row of bytes that is asked for -/
theorem row_of {w : World} {a : Option Addr} {len cap : Nat} {zs : List Int} (h : Bs w a len cap zs) {N : Nat} (h1 : 1 ≤ N) (h2 : N ≤ len) :
    ∃ b o, a = some ⟨b, o, none⟩ ∧ (zs.take N).length = N ∧ (∀ z ∈ zs.take N, 0 ≤ z ∧ z ≤ 255) ∧ ∀ i, i < N → w.cell? ⟨b, o + i, none⟩ = some (.int .u8 ((zs.take N).getD i 0)) := by
  obtain ⟨⟨hl, hs⟩, hc, hm, hby⟩ := h
  rcases hs with h0 | ⟨b, o, rfl, hs⟩
  · omega
  · refine ⟨b, o, rfl, by rw [List.length_take]; omega, fun z hz => hby z (List.mem_of_mem_take hz), fun i hi => ?_⟩
    rw [hs i (by omega), List.getD_eq_getElem?_getD, List.getD_eq_getElem?_getD, List.getElem?_take_of_lt hi]
theorem unpack_any (a : Option Addr) (len cap : Nat) (zs : List Int) (W : Int) (w : World) (h : Bs w a len cap zs) :
    Calls Tryz.prog 199 #[.slice a len cap, .int .i64 W] w (UnpR (unpackV zs W) (rowE len W) w) := by
  have hl : zs.length = len := h.1.1
  by_cases h0 : rowE len W = 0
  · obtain ⟨N, P, rfl, hN, h1, h2, h3, h4, h5⟩ := bytesV_pos h0
    obtain ⟨b, o, rfl, k1, k2, k3⟩ := row_of h h1 h2
    have := unpack_yes (zs.take N) b o len cap N P k1 k2 h.2.1 h.2.2.1 hN h1 h2 h3 h4 h5 w k3
    rw [bits_cut zs N P h4] at this
    unfold unpackV
    rw [hl, if_pos h0, h0]
    exact this
  · refine (unpack_no a len cap W (by have := h.2; omega) h0 w).mono ?_
    rintro e w' ⟨rfl, rfl⟩
    unfold unpackV
    rw [hl, if_neg h0]
    exact ⟨none, 0, rfl, World.ownsRow_nil _ _ _ _, Below.refl _ _⟩
end Bt
end Go.Proofs.YtooilemglmndeaaGreat

/- One bit of bytes, over any memory, of bits and of the document's own answer. Condition: numbers fit their kinds. -/
namespace Go.Proofs.YtooilemglmndeaaGreat
open Go.RowKit Go.Shelf
set_option linter.unusedVariables false
namespace Bt
theorem place (i : Int) (len : Nat) (h0 : ¬ i < 0) (h1 : ¬ (len : Int) ≤ i / 8) : ∃ k j : Nat, i = 8 * k + j ∧ j < 8 ∧ k < len :=
  ⟨(i / 8).toNat, (i % 8).toNat, by omega, by omega, by omega⟩
end Bt
end Go.Proofs.YtooilemglmndeaaGreat

/- A row's pixels, by the document's own answer, over any memory. Condition: numbers fit their kinds. -/
namespace Go.Proofs.YtooilemglmndeaaGreat
open Go.RowKit Go.Shelf
set_option linter.unusedVariables false
namespace Bt
end Bt
end Go.Proofs.YtooilemglmndeaaGreat

/- What runs in a list, over any memory, of bits and of the document's own answer; numbers made 0 or 1. Condition: numbers fit their kinds. -/
namespace Go.Proofs.YtooilemglmndeaaGreat
open Go.RowKit Go.Shelf
set_option linter.unusedVariables false
namespace Bt
/-- a list of integers in a row that the call owns -/
def LsR (xs : List Int) (w : World) (e : Ending) (w' : World) : Prop :=
  ∃ ad cap, e = .returned (.slice ad xs.length cap) ∧ w'.ownsRow w.heap.size 3 1 (.slice ad xs.length cap) xs.length (xs.map (Value.int .i64)) ∧ Below w.heap.size w w'
theorem getD_mem (l : List Int) (k : Nat) (h : k < l.length) : l.getD k 0 ∈ l := by
  rw [List.getD_eq_getElem?_getD, List.getElem?_eq_getElem h]; exact List.getElem_mem _
end Bt
end Go.Proofs.YtooilemglmndeaaGreat

/- How many bytes the raster of a head has, by head and by the document, over any memory. Condition: the head may be. -/
namespace Go.Proofs.YtooilemglmndeaaGreat
open Go.RowKit
set_option linter.unusedVariables false

theorem Hj.bound3 {a b c : Int} (a0 : 1 ≤ a) (a1 : a ≤ 4096) (b0 : 1 ≤ b) (b1 : b ≤ 65536) (c0 : 1 ≤ c) (c1 : c ≤ 3) : 0 ≤ a * b ∧ a * b ≤ 268435456 ∧ 0 ≤ a * b * c ∧ a * b * c ≤ 805306368 := by
  have h1 : 0 ≤ a * b := Int.mul_nonneg (by omega) (by omega)
  have h2 : a * b ≤ 4096 * 65536 := Int.mul_le_mul a1 b1 (by omega) (by omega)
  have h3 : 0 ≤ a * b * c := Int.mul_nonneg h1 (by omega)
  have h4 : a * b * c ≤ (4096 * 65536) * 3 := Int.mul_le_mul h2 c1 (by omega) (by omega)
  omega
theorem field0_run (c m : Int) (W : World) : (Instr.field 29 (.agg #[.int .i64 c, .int .i64 m]) 0).run Tryz.prog W = .ok (.int .i64 c) W := by kernel_rfl
theorem Hj.size_small {h : Hd.H} (hk : h.kd < 4) : Hj.size h = 0 := by unfold Hj.size; rw [if_pos hk]
theorem Hj.size_4 {h : Hd.H} (hk : h.kd = 4) : Hj.size h = h.h * ((h.w + 7) / 8) := by unfold Hj.size; rw [if_neg (by omega), if_pos hk]
theorem Hj.size_5 {h : Hd.H} (hk : 4 < h.kd) : Hj.size h = h.w * h.h * Hj.chan h * (if 255 < h.m then 2 else 1) := by unfold Hj.size; rw [if_neg (by omega), if_neg (by omega)]
set_option maxRecDepth 100000 in
set_option maxHeartbeats 2000000 in
theorem hsize_any (h : Hd.H) (hm : Hd.May h) (w : World) :
    Calls Tryz.prog 105 #[agH h] w fun e w' => e = .returned (.int .i64 (Hj.size h)) ∧ Below w.heap.size w w' := by
  have HF := Lib.hid (hformat_any h hm)
  have HR := Lib.hid (hraw_any h hm)
  obtain ⟨kd, ww, hh, m⟩ := h
  obtain ⟨⟨a1, a2⟩, ⟨b1, b2⟩, ⟨c1, c2⟩, ⟨d1, d2⟩, _⟩ := hm
  simp only at a1 a2 b1 b2 c1 c2 d1 d2
  unfold agH at HF HR ⊢
  by_cases k3 : kd < 4
  · have X := Lib.hid (Hj.size_small (h := ⟨kd, ww, hh, m⟩) k3)
    simp only [decide_eq_false (show ¬ 3 < kd by omega)] at HR
    clear HF
    go_enter Tryz.func105, Tryz.ntmps105
    go_wp2_with (go_at_call 92; refine (HR.out _).mono ?_; rintro e w9 ⟨rfl, hb9⟩)
    go_ret
    exact ⟨Ar.ret_i X.out.symm, ((Below.refl _ w).alloc (Nat.le_refl _) _).trans (hb9.mono (by simp))⟩
  simp only [decide_eq_true (show 3 < kd by omega)] at HR
  by_cases k4 : kd = 4
  · have X := Lib.hid (Hj.size_4 (h := ⟨kd, ww, hh, m⟩) k4)
    subst k4
    simp only at X
    obtain ⟨q, hq⟩ : ∃ q, (ww + 7) / 8 = q := ⟨_, rfl⟩
    have q0 : 0 ≤ q := by omega
    have q1 : q ≤ 512 := by omega
    have p0 : 0 ≤ hh * q := Int.mul_nonneg (by omega) q0
    have p1 : hh * q ≤ 65536 * 512 := Int.mul_le_mul c2 q1 q0 (by omega)
    have e1 : wrap64 (ww + 7) = ww + 7 := by rw [IntWalk.wrap64_in] <;> omega
    have f1 : IntKind.i64.wrap (ww + 7) = ww + 7 := by rw [IntWalk.i64_in] <;> omega
    have e3 : (ww + 7).tdiv 8 = q := by rw [Int.tdiv_eq_ediv_of_nonneg (by omega)]; exact hq
    rw [hq] at X
    obtain ⟨r, hr⟩ : ∃ r, hh * q = r := ⟨_, rfl⟩
    rw [hr] at p0 p1 X
    have e2 : wrap64 (hh * q) = r := by rw [hr, IntWalk.wrap64_in] <;> omega
    have f2 : IntKind.i64.wrap (hh * q) = r := by rw [hr, IntWalk.i64_in] <;> omega
    have e4 : wrap64 q = q := by rw [IntWalk.wrap64_in] <;> omega
    clear HF hr p0 p1 hq
    go_enter Tryz.func105, Tryz.ntmps105
    go_wp2_with fail
    refine (HR.out _).mono ?_
    rintro e w9 ⟨rfl, hb9⟩
    obtain ⟨n0, n1, n2, n3⟩ := ((Hb.new w 62 ⟨4, ww, hh, m⟩).later hb9).cells
    go_wp2
    go_ret
    exact ⟨Ar.ret_i X.out.symm, ((Below.refl _ w).alloc (Nat.le_refl _) _).trans (hb9.mono (by simp))⟩
  · have X := Lib.hid (Hj.size_5 (h := ⟨kd, ww, hh, m⟩) (show 4 < kd by omega))
    simp only at X
    unfold Hj.fm at HF
    obtain ⟨c, hc⟩ : ∃ c, Hj.chan ⟨kd, ww, hh, m⟩ = c := ⟨_, rfl⟩
    have hcc := Hj.chan_at ⟨kd, ww, hh, m⟩
    rw [hc] at HF X hcc
    obtain ⟨t0, t1, t2, t3⟩ := Hj.bound3 (c := c) b1 b2 c1 c2 (by omega) (by omega)
    obtain ⟨r, hr⟩ : ∃ r, ww * hh = r := ⟨_, rfl⟩
    rw [hr] at t0 t1 t2 t3 X
    obtain ⟨s, hs⟩ : ∃ s, r * c = s := ⟨_, rfl⟩
    rw [hs] at t2 t3 X
    have f1 : IntKind.i64.wrap (ww * hh) = r := by rw [hr, IntWalk.i64_in] <;> omega
    have f2 : IntKind.i64.wrap (r * c) = s := by rw [hs, IntWalk.i64_in] <;> omega
    have g1 : wrap64 (ww * hh) = r := by rw [hr, IntWalk.wrap64_in] <;> omega
    have g2 : wrap64 (r * c) = s := by rw [hs, IntWalk.wrap64_in] <;> omega
    have g3 : wrap64 (s * 2) = s * 2 := by rw [IntWalk.wrap64_in] <;> omega
    have k4b : (kd == 4) = false := by simpa using k4
    have hfd := field0_run c m
    have hBt : Below w.heap.size w w := .refl _ _
    clear hc hcc hr hs t0 t1 k3 a1 a2 b1 b2 c1 c2 k4
    go_enter Tryz.func105, Tryz.ntmps105
    go_wp2_with fail
    refine (HR.out _).mono ?_
    rintro e w9 ⟨rfl, hb9⟩
    obtain ⟨n0, n1, n2, n3⟩ := ((Hb.new w 62 ⟨kd, ww, hh, m⟩).later hb9).cells
    have HBz := Lib.hid (((hBt).alloc (Nat.le_refl _) (.cells #[.int .i64 kd, .int .i64 ww, .int .i64 hh, .int .i64 m] 62)).trans (hb9.mono (by simp)))
    have hBr : Below w9.heap.size w9 w9 := .refl _ _
    clear hb9 hBt
    go_wp2_with fail
    go_cut [3] (fun s3 wx => s3 = .int .i64 s ∧ Below w9.heap.size w9 wx)
    case first =>
      go_region_held3 (fun w' => w'.cell? ⟨w.heap.size, 0, none⟩ = some (.int .i64 kd) ∧ w'.cell? ⟨w.heap.size, 1, none⟩ = some (.int .i64 ww) ∧ w'.cell? ⟨w.heap.size, 2, none⟩ = some (.int .i64 hh) ∧ w'.cell? ⟨w.heap.size, 3, none⟩ = some (.int .i64 m))
        (first | exact ⟨n0, n1, n2, n3⟩ | exact ⟨cell_later hBr n0, cell_later hBr n1, cell_later hBr n2, cell_later hBr n3⟩)
        (first | (go_at_call 64; refine (HF.out _).mono ?_; rintro e w8 ⟨rfl, hb8⟩; replace hBr := bel_step (w := w9) (by first | exact hBr | exact hBr.drew) hb8))
      all_goals
        go_wp2_with fail
        go_meet
        case rel => exact ⟨rfl, hBr⟩
    case rest =>
      obtain ⟨rfl, hBx⟩ := hcut
      have m3 := cell_later hBx n3
      have HBy := Lib.hid (HBz.out.trans (hBx.mono HBz.out.size))
      clear n0 n1 n2 n3 hBr hBx
      by_cases hm2 : 255 < m
      · have X2 : Hid (Hj.size ⟨kd, ww, hh, m⟩ = s * 2) := by show _ = _; rw [X.out, if_pos hm2]
        go_wp2
        go_ret
        exact ⟨Ar.ret_i X2.out.symm, HBy.out⟩
      · have X2 : Hid (Hj.size ⟨kd, ww, hh, m⟩ = s) := by show _ = _; rw [X.out, if_neg hm2, Int.mul_one]
        go_wp2
        go_ret
        exact ⟨Ar.ret_i X2.out.symm, HBy.out⟩
end Go.Proofs.YtooilemglmndeaaGreat

/- Plain facts on rasters of digits: a reader as a plain function that is told bytes one by one. No condition. -/
namespace Go.Proofs.YtooilemglmndeaaGreat
open Go.RowKit
set_option linter.unusedVariables false
namespace Pl
/-- a reader: its head, the number that is told, whether digits are, samples of a pixel, pixels of a row, how many rows were told, whether it is over or wrong (1, 2), why -/
structure S where
  h : Hd.H
  n : Int
  d : Bool
  one : List Int
  row : List Int
  rows : Int
  last : Int
  e : Int
def new (h : Hd.H) : S := ⟨h, 0, false, [], [], 0, 0, 0⟩
def wrong (s : S) (e : Int) : S := ⟨s.h, s.n, s.d, s.one, s.row, s.rows, 2, e⟩
def pix (s : S) (n : Int) : Int := (Pq.Px.packV (s.one ++ [n])).1
/-- a sample that ends no pixel; one that ends no row; one that ends a row -/
def more (s : S) (n : Int) : S := ⟨s.h, 0, false, s.one ++ [n], s.row, s.rows, 0, 0⟩
def pixel (s : S) (n : Int) : S := ⟨s.h, 0, false, [], s.row ++ [pix s n], s.rows, 0, 0⟩
def line (s : S) (n : Int) : S := ⟨s.h, 0, false, [], [], s.rows + 1, if s.rows + 1 = s.h.h then 1 else 0, 0⟩
def sample (s : S) (n : Int) : S × List Int :=
  if (s.one.length : Int) + 1 < Hj.chan s.h then (more s n, [])
  else if (s.row.length : Int) + 1 < s.h.w then (pixel s n, [])
  else (line s n, s.row ++ [pix s n])
def digit (s : S) (n : Int) : S := ⟨s.h, n, true, s.one, s.row, s.rows, 0, 0⟩
def put (s : S) (c : Int) : S × List Int :=
  if s.last ≠ 0 then (s, [])
  else if Tk.blank c = true then (if s.d = true then sample s s.n else (s, []))
  else if s.h.kd = 1 then (if c = 48 ∨ c = 49 then sample s (c - 48) else (wrong s 3, []))
  else if (Nu.stepV s.n c s.h.m).2 = 0 then (digit s (Nu.stepV s.n c s.h.m).1, [])
  else (wrong s (if (Nu.stepV s.n c s.h.m).2 = 4 then 5 else (Nu.stepV s.n c s.h.m).2), [])
def fin (s : S) : S × List Int :=
  if (put s 32).1.last = 0 then (wrong (put s 32).1 6, (put s 32).2) else put s 32
/-- which heads are a plain raster's -/
def May (h : Hd.H) : Prop := Hd.May h ∧ h.kd ≤ 3
/-- what is so of each reader -/
structure Good (s : S) : Prop where
  may : May s.h
  n0 : 0 ≤ s.n
  n1 : s.n ≤ s.h.m
  nd : s.d = false → s.n = 0
  kd : s.h.kd = 1 → s.d = false
  one : (s.one.length : Int) < Hj.chan s.h
  oneIn : ∀ x ∈ s.one, 0 ≤ x ∧ x ≤ s.h.m
  row : (s.row.length : Int) < s.h.w
  rows0 : 0 ≤ s.rows
  rows1 : s.last = 0 → s.rows < s.h.h
  rows2 : s.rows ≤ s.h.h
  last : s.last = 0 ∨ s.last = 1 ∨ s.last = 2
  e0 : s.last ≠ 2 → s.e = 0
  e2 : s.last = 2 → s.e = 3 ∨ s.e = 5 ∨ s.e = 6
theorem May.m {h : Hd.H} (H : May h) : 1 ≤ h.m ∧ h.m ≤ 65535 ∧ 1 ≤ h.w ∧ h.w ≤ 4096 ∧ 1 ≤ h.h ∧ h.h ≤ 65536 ∧ 1 ≤ h.kd ∧ h.kd ≤ 3 := by
  obtain ⟨h1, h2⟩ := H
  unfold Hd.May at h1
  omega
theorem good_new {h : Hd.H} (H : May h) : Good (new h) := by
  have := H.m
  have hc := Hj.chan_at h
  exact ⟨H, Int.le_refl _, by show (0 : Int) ≤ h.m; omega, fun _ => rfl, fun _ => rfl, by show ((0 : Nat) : Int) < Hj.chan h; omega, (fun x hx => by cases hx), by show ((0 : Nat) : Int) < h.w; omega, Int.le_refl _, fun _ => by show (0 : Int) < h.h; omega, by show (0 : Int) ≤ h.h; omega, .inl rfl, fun _ => rfl, (fun h => absurd h (show ¬ (0 : Int) = 2 by decide))⟩
theorem good_wrong {s : S} (H : Good s) {e : Int} (he : e = 3 ∨ e = 5 ∨ e = 6) : Good (wrong s e) :=
  ⟨H.may, H.n0, H.n1, H.nd, H.kd, H.one, H.oneIn, H.row, H.rows0, (fun h => absurd h (show ¬ (2 : Int) = 0 by decide)), H.rows2, .inr (.inr rfl), fun h => absurd rfl h, fun _ => he⟩
theorem good_sample {s : S} (H : Good s) (h0 : s.last = 0) (n : Int) (n0 : 0 ≤ n) (n1 : n ≤ s.h.m) : Good (sample s n).1 := by
  have hm := H.may.m
  have hc := Hj.chan_at s.h
  have hr := H.rows1 h0
  have hr0 := H.rows0
  have ho := H.one
  have hw := H.row
  unfold sample
  split
  · rename_i h1
    exact ⟨H.may, Int.le_refl _, by show (0 : Int) ≤ s.h.m; omega, fun _ => rfl, fun _ => rfl, by show (((s.one ++ [n]).length : Nat) : Int) < Hj.chan s.h; rw [List.length_append, List.length_singleton]; omega, (fun x hx => by
      rcases List.mem_append.1 hx with hx | hx
      · exact H.oneIn x hx
      · rw [List.mem_singleton.1 hx]; exact ⟨n0, n1⟩), H.row, H.rows0, fun _ => hr, H.rows2, .inl rfl, fun _ => rfl, (fun h => absurd h (show ¬ (0 : Int) = 2 by decide))⟩
  split
  · rename_i h1 h2
    exact ⟨H.may, Int.le_refl _, by show (0 : Int) ≤ s.h.m; omega, fun _ => rfl, fun _ => rfl, by show ((0 : Nat) : Int) < Hj.chan s.h; omega, (fun x hx => by cases hx), by show (((s.row ++ [pix s n]).length : Nat) : Int) < s.h.w; rw [List.length_append, List.length_singleton]; omega, H.rows0, fun _ => hr, H.rows2, .inl rfl, fun _ => rfl, (fun h => absurd h (show ¬ (0 : Int) = 2 by decide))⟩
  · refine ⟨H.may, Int.le_refl _, by show (0 : Int) ≤ s.h.m; omega, fun _ => rfl, fun _ => rfl, by show ((0 : Nat) : Int) < Hj.chan s.h; omega, (fun x hx => by cases hx), by show ((0 : Nat) : Int) < s.h.w; omega, by show 0 ≤ s.rows + 1; omega, ?_, by show s.rows + 1 ≤ s.h.h; omega, ?_, fun _ => rfl, ?_⟩
    · intro h
      have h : (if s.rows + 1 = s.h.h then (1 : Int) else 0) = 0 := h
      show s.rows + 1 < s.h.h
      split at h
      · cases h
      · omega
    · show (if s.rows + 1 = s.h.h then (1 : Int) else 0) = 0 ∨ (if s.rows + 1 = s.h.h then (1 : Int) else 0) = 1 ∨ _
      split
      · exact .inr (.inl rfl)
      · exact .inl rfl
    · intro h
      have h : (if s.rows + 1 = s.h.h then (1 : Int) else 0) = 2 := h
      split at h <;> cases h
theorem good_put {s : S} (H : Good s) (c : Int) : Good (put s c).1 := by
  have hm := H.may.m
  unfold put
  split
  · exact H
  rename_i h0
  have h0 : s.last = 0 := by omega
  split
  · split
    · exact good_sample H h0 s.n H.n0 H.n1
    · exact H
  split
  · split
    · exact good_sample H h0 (c - 48) (by omega) (by omega)
    · exact good_wrong H (.inl rfl)
  rename_i hk
  split
  · rename_i he
    obtain ⟨g1, g2⟩ := Nu.stepV_le s.n c s.h.m H.n0 H.n1 he
    exact ⟨H.may, g1, g2, (fun h => absurd h (show ¬ true = false by decide)), (fun h => absurd h hk), H.one, H.oneIn, H.row, H.rows0, (fun _ => H.rows1 h0), H.rows2, .inl rfl, fun _ => rfl, (fun h => absurd h (show ¬ (0 : Int) = 2 by decide))⟩
  · rename_i he
    refine good_wrong H ?_
    have := Tk.stepV_e s.n c s.h.m
    split <;> omega
end Pl
end Go.Proofs.YtooilemglmndeaaGreat

/- Plain facts on rasters of bytes: a reader as a plain function that is told bytes one by one. No condition. -/
namespace Go.Proofs.YtooilemglmndeaaGreat
open Go.RowKit
set_option linter.unusedVariables false
namespace Rw
/-- parts of length k, one behind the other, and what waits of the next -/
def feed (k : Nat) (t : List (List Int) × List Int) (x : Int) : List (List Int) × List Int :=
  if t.2.length + 1 = k then (t.1 ++ [t.2 ++ [x]], []) else (t.1, t.2 ++ [x])
def parts (k : Nat) (l : List Int) : List (List Int) × List Int := l.foldl (feed k) ([], [])
theorem parts_nil (k : Nat) : parts k [] = ([], []) := rfl
theorem parts_snoc (k : Nat) (l : List Int) (x : Int) : parts k (l ++ [x]) = feed k (parts k l) x := by simp [parts, List.foldl_append]
theorem parts_full {k : Nat} {l : List Int} {x : Int} (h : (parts k l).2.length + 1 = k) : parts k (l ++ [x]) = ((parts k l).1 ++ [(parts k l).2 ++ [x]], []) := by rw [parts_snoc, feed, if_pos h]
theorem parts_wait {k : Nat} {l : List Int} {x : Int} (h : ¬ (parts k l).2.length + 1 = k) : parts k (l ++ [x]) = ((parts k l).1, (parts k l).2 ++ [x]) := by rw [parts_snoc, feed, if_neg h]
theorem snoc_ind {P : List Int → Prop} (h0 : P []) (h1 : ∀ l x, P l → P (l ++ [x])) : ∀ l, P l := by
  intro l
  have : ∀ n, ∀ l : List Int, l.length = n → P l := by
    intro n
    induction n with
    | zero => intro l hl; rw [List.eq_nil_of_length_eq_zero hl]; exact h0
    | succ n ih =>
      intro l hl
      have hne : l ≠ [] := by intro e; subst e; cases hl
      rw [← List.dropLast_concat_getLast hne]
      exact h1 _ _ (ih _ (by rw [List.length_dropLast]; omega))
  exact this _ l rfl
theorem parts_at {k : Nat} (hk : 1 ≤ k) : ∀ l : List Int, (parts k l).2.length < k ∧ (parts k l).1.length * k + (parts k l).2.length = l.length ∧ (∀ p ∈ (parts k l).1, p.length = k) := by
  refine snoc_ind ⟨by simp [parts_nil]; omega, by simp [parts_nil], by simp [parts_nil]⟩ fun l x ⟨h1, h2, h3⟩ => ?_
  by_cases h : (parts k l).2.length + 1 = k
  · rw [parts_full h]
    refine ⟨by simp; omega, ?_, ?_⟩
    · simp only [List.length_append, List.length_singleton, List.length_nil, Nat.add_mul, Nat.one_mul]; omega
    · intro p hp
      rcases List.mem_append.1 hp with hp | hp
      · exact h3 p hp
      · rw [List.mem_singleton.1 hp, List.length_append, List.length_singleton]; exact h
  · rw [parts_wait h]
    exact ⟨by simp only [List.length_append, List.length_singleton]; omega, by simp only [List.length_append, List.length_singleton]; omega, h3⟩
theorem parts_one (l : List Int) : parts 1 l = (l.map (fun x => [x]), []) := by
  refine snoc_ind (P := fun l => parts 1 l = (l.map (fun x => [x]), [])) rfl (fun l x h => ?_) l
  rw [parts_full (by rw [h]; rfl), h]; simp
theorem parts_join {k : Nat} : ∀ l : List Int, (parts k l).1.flatten ++ (parts k l).2 = l := by
  refine snoc_ind rfl fun l x h => ?_
  by_cases h1 : (parts k l).2.length + 1 = k
  · rw [parts_full h1]; simp only [List.flatten_append, List.flatten_cons, List.flatten_nil, List.append_nil]; rw [← List.append_assoc, h]
  · rw [parts_wait h1]; simp only []; rw [← List.append_assoc, h]
/-- a number of its bytes, the highest first -/
def val (l : List Int) : Int := l.foldl (fun a x => a * 256 + x) 0
theorem val_one (x : Int) : val [x] = x := by simp [val]
theorem val_two (x y : Int) : val [x, y] = x * 256 + y := by simp [val]
def wide (h : Hd.H) : Nat := if 255 < h.m then 2 else 1
def chan (h : Hd.H) : Nat := if h.kd = 6 then 3 else 1
theorem wide_at (h : Hd.H) : (255 < h.m ∧ wide h = 2) ∨ (h.m ≤ 255 ∧ wide h = 1) := by unfold wide; split <;> omega
theorem chan_at (h : Hd.H) : (h.kd = 6 ∧ chan h = 3) ∨ (h.kd ≠ 6 ∧ chan h = 1) := by unfold chan; split <;> simp_all
/-- a raster's head -/
def May (h : Hd.H) : Prop := Hd.May h ∧ 4 ≤ h.kd
theorem May.m {h : Hd.H} (H : May h) : 1 ≤ h.m ∧ h.m ≤ 65535 ∧ 1 ≤ h.w ∧ h.w ≤ 4096 ∧ 1 ≤ h.h ∧ h.h ≤ 65536 ∧ 4 ≤ h.kd ∧ h.kd ≤ 6 := by
  obtain ⟨h1, h2⟩ := H
  unfold Hd.May at h1
  omega
theorem May.one {h : Hd.H} (H : May h) (h4 : h.kd = 4) : h.m = 1 ∧ wide h = 1 ∧ chan h = 1 := by
  obtain ⟨h1, h2⟩ := H
  have h3 : h.m = 1 := by
    unfold Hd.May at h1
    have hb : Hd.bits h.kd = true := by unfold Hd.bits; rw [h4]; decide
    obtain ⟨_, _, _, _, h5⟩ := h1
    first
      | exact h5 hb
      | (rcases h5 with h5 | h5
         · exact h5
         · exact absurd hb h5)
  refine ⟨h3, ?_, ?_⟩
  · unfold wide; rw [if_neg (by omega)]
  · unfold chan; rw [if_neg (by omega)]
theorem chan_eq {h : Hd.H} (H : May h) : Hj.chan h = (chan h : Int) := by
  have := H.2
  unfold Hj.chan chan
  by_cases h6 : h.kd = 6
  · rw [if_pos (.inr h6), if_pos h6]; rfl
  · rw [if_neg (by omega), if_neg h6]; rfl
/-- how many bytes a row has -/
def stride (h : Hd.H) : Nat := if h.kd = 4 then ((h.w + 7) / 8).toNat else h.w.toNat * (chan h * wide h)
/-- samples of bytes; pixels of samples; a row's pixels, as many as are whole -/
def smp (h : Hd.H) (r : List Int) : List Int := (parts (wide h) r).1.map val
def pk (p : List Int) : Int := (Pq.Px.packV p).1
def pxs (h : Hd.H) (l : List Int) : List Int := (parts (chan h) l).1.map pk
def rowV (h : Hd.H) (r : List Int) : List Int := if h.kd = 4 then ((Bt.bitsOf r).take h.w.toNat).map (fun x => pk [x]) else pxs h (smp h r)
def oneV (h : Hd.H) (r : List Int) : List Int := if h.kd = 4 then [] else (parts (chan h) (smp h r)).2
def bad (h : Hd.H) (r : List Int) (c : Int) : Prop := h.kd ≠ 4 ∧ (parts (wide h) r).2.length + 1 = wide h ∧ h.m < val ((parts (wide h) r).2 ++ [c])
instance (h : Hd.H) (r : List Int) (c : Int) : Decidable (bad h r c) := by unfold bad; infer_instance
theorem wide_pos (h : Hd.H) : 1 ≤ wide h := by have := wide_at h; omega
theorem chan_pos (h : Hd.H) : 1 ≤ chan h := by have := chan_at h; omega
theorem stride_at {h : Hd.H} (H : May h) : 1 ≤ stride h ∧ stride h ≤ 24576 ∧ (h.kd = 4 → ((stride h : Nat) : Int) = (h.w + 7) / 8) ∧ (h.kd ≠ 4 → ((stride h : Nat) : Int) = h.w * ((chan h : Int) * (wide h : Int))) := by
  have hm := H.m
  unfold stride
  by_cases h4 : h.kd = 4
  · rw [if_pos h4]; exact ⟨by omega, by omega, fun _ => by omega, fun h => absurd h4 h⟩
  · rw [if_neg h4]
    have hc := chan_at h
    have hw := wide_at h
    have e : ((h.w.toNat : Nat) : Int) = h.w := by omega
    refine ⟨?_, ?_, fun h => absurd h h4, fun _ => ?_⟩
    · rcases hc with ⟨_, hc⟩ | ⟨_, hc⟩ <;> rcases hw with ⟨_, hw⟩ | ⟨_, hw⟩ <;> rw [hc, hw] <;> omega
    · rcases hc with ⟨_, hc⟩ | ⟨_, hc⟩ <;> rcases hw with ⟨_, hw⟩ | ⟨_, hw⟩ <;> rw [hc, hw] <;> omega
    · rw [Int.natCast_mul, Int.natCast_mul, e]
theorem smp_len (h : Hd.H) (r : List Int) : (smp h r).length * wide h + (parts (wide h) r).2.length = r.length := by
  have := (parts_at (wide_pos h) r).2.1
  unfold smp; rw [List.length_map]; exact this
theorem pxs_len (h : Hd.H) (l : List Int) : (pxs h l).length * chan h + (parts (chan h) l).2.length = l.length := by
  have := (parts_at (chan_pos h) l).2.1
  unfold pxs; rw [List.length_map]; exact this
/-- how many pixels are whole -/
theorem row_len {h : Hd.H} (H : May h) (r : List Int) : (r.length < stride h → ((rowV h r).length : Int) < h.w) ∧ (r.length = stride h → ((rowV h r).length : Int) = h.w) ∧ (r.length ≤ stride h → ((rowV h r).length : Int) ≤ h.w) := by
  have hm := H.m
  have hs := stride_at H
  by_cases h4 : h.kd = 4
  · have h5 := hs.2.2.1 h4
    have e : (rowV h r).length = min h.w.toNat (8 * r.length) := by unfold rowV; rw [if_pos h4, List.length_map, List.length_take, Bt.bitsOf_len]
    rw [e]
    omega
  · have h5 := hs.2.2.2 h4
    have e : (rowV h r).length = (pxs h (smp h r)).length := by unfold rowV; rw [if_neg h4]
    rw [e]
    have a1 := smp_len h r
    have a2 := (parts_at (wide_pos h) r).1
    have a3 := pxs_len h (smp h r)
    have a4 := (parts_at (chan_pos h) (smp h r)).1
    rcases chan_at h with ⟨_, hc⟩ | ⟨_, hc⟩ <;> rcases wide_at h with ⟨_, hw⟩ | ⟨_, hw⟩ <;> simp only [hc, hw] at a1 a2 a3 a4 h5 <;> omega
theorem one_len {h : Hd.H} (r : List Int) : (oneV h r).length < chan h := by
  unfold oneV
  split
  · exact chan_pos h
  · exact (parts_at (chan_pos h) _).1
/-- a reader: its head, the bytes of its row, how many rows were told, how many bytes are left, why it is wrong -/
structure S where
  h : Hd.H
  cur : List Int
  rows : Int
  left : Int
  e : Int
def new (h : Hd.H) : S := ⟨h, [], 0, Hj.size h, 0⟩
def put (s : S) (c : Int) : S × List Int :=
  if s.left = 0 then (s, [])
  else if bad s.h s.cur c then (⟨s.h, s.cur, s.rows, 0, 5⟩, [])
  else if s.cur.length + 1 = stride s.h then (⟨s.h, [], s.rows + 1, s.left - 1, 0⟩, rowV s.h (s.cur ++ [c]))
  else (⟨s.h, s.cur ++ [c], s.rows, s.left - 1, 0⟩, [])
/-- what it is then: 0, 1 (over), 2 (wrong) -/
def last (s : S) : Int := if s.e ≠ 0 then 2 else if s.left = 0 then 1 else 0
theorem size_eq {h : Hd.H} (H : May h) : Hj.size h = h.h * (stride h : Int) := by
  have hs := stride_at H
  have hm := H.m
  by_cases h4 : h.kd = 4
  · rw [Hj.size_4 h4, hs.2.2.1 h4]
  · rw [Hj.size_5 (by omega), hs.2.2.2 h4, chan_eq H]
    have e : ((wide h : Nat) : Int) = if 255 < h.m then 2 else 1 := by unfold wide; split <;> rfl
    rw [← e]
    rw [Int.mul_comm h.w h.h, Int.mul_assoc, Int.mul_assoc]
/-- what is so of each reader -/
structure Good (s : S) : Prop where
  may : May s.h
  cur : s.cur.length < stride s.h
  byte : ∀ x ∈ s.cur, 0 ≤ x ∧ x ≤ 255
  rows0 : 0 ≤ s.rows
  rows1 : s.rows ≤ s.h.h
  e : s.e = 0 ∨ s.e = 5
  left0 : 0 ≤ s.left
  left1 : s.e = 0 → s.left + s.rows * (stride s.h : Int) + (s.cur.length : Int) = s.h.h * (stride s.h : Int)
  left5 : s.e = 5 → s.left = 0
  smp : s.h.kd ≠ 4 → ∀ x ∈ smp s.h s.cur, 0 ≤ x ∧ x ≤ s.h.m
theorem good_new {h : Hd.H} (H : May h) : Good (new h) := by
  have hm := H.m
  have hs := stride_at H
  have h0 : 0 ≤ h.h * (stride h : Int) := Int.mul_nonneg (by omega) (by omega)
  exact ⟨H, hs.1, (fun x hx => by cases hx), Int.le_refl _, by show (0 : Int) ≤ h.h; omega, .inl rfl, by show 0 ≤ Hj.size h; rw [size_eq H]; exact h0, (fun _ => by show Hj.size h + 0 * (stride h : Int) + ((0 : Nat) : Int) = h.h * (stride h : Int); rw [size_eq H]; omega), (fun h => by cases h), (fun _ x hx => by cases hx)⟩
theorem smp_more {h : Hd.H} {r : List Int} {c : Int} (H : (parts (wide h) r).2.length + 1 = wide h) : smp h (r ++ [c]) = smp h r ++ [val ((parts (wide h) r).2 ++ [c])] := by unfold smp; rw [parts_full H]; simp
theorem smp_wait {h : Hd.H} {r : List Int} {c : Int} (H : ¬ (parts (wide h) r).2.length + 1 = wide h) : smp h (r ++ [c]) = smp h r := by unfold smp; rw [parts_wait H]
theorem wait_in {h : Hd.H} {r : List Int} (hr : ∀ x ∈ r, 0 ≤ x ∧ x ≤ 255) : (parts (wide h) r).2 = [] ∨ ∃ x, (parts (wide h) r).2 = [x] ∧ 0 ≤ x ∧ x ≤ 255 ∧ wide h = 2 := by
  have h1 := (parts_at (wide_pos h) r).1
  have h2 := parts_join (k := wide h) r
  obtain ⟨l, hl⟩ : ∃ l, (parts (wide h) r).2 = l := ⟨_, rfl⟩
  rw [hl] at h1 h2 ⊢
  have hw := wide_at h
  match l, h1, h2 with
  | [], _, _ => exact .inl rfl
  | [x], h1, h2 =>
    have hx := hr x (by rw [← h2]; simp)
    exact .inr ⟨x, rfl, hx.1, hx.2, by simp at h1; omega⟩
  | x :: y :: l, h1, _ => simp at h1; omega
theorem good_put {s : S} (G : Good s) (c : Int) (c0 : 0 ≤ c) (c1 : c ≤ 255) : Good (put s c).1 := by
  have hm := G.may.m
  have hs := stride_at G.may
  have hb : ∀ x ∈ s.cur ++ [c], 0 ≤ x ∧ x ≤ 255 := fun x hx => by
    rcases List.mem_append.1 hx with hx | hx
    · exact G.byte x hx
    · rw [List.mem_singleton.1 hx]; exact ⟨c0, c1⟩
  unfold put
  split
  · exact G
  rename_i h0
  have e0 : s.e = 0 := by
    rcases G.e with h | h
    · exact h
    · exact absurd (G.left5 h) h0
  have hl := G.left1 e0
  have hl0 := G.left0
  split
  · exact ⟨G.may, G.cur, G.byte, G.rows0, G.rows1, .inr rfl, Int.le_refl _, (fun h => by cases h), fun _ => rfl, G.smp⟩
  rename_i h1
  split
  · rename_i h2
    refine ⟨G.may, hs.1, (fun x hx => by cases hx), by show 0 ≤ s.rows + 1; have := G.rows0; omega, ?_, .inl rfl, by show 0 ≤ s.left - 1; omega, fun _ => ?_, (fun h => by cases h), (fun _ x hx => by cases hx)⟩
    · show s.rows + 1 ≤ s.h.h
      have hp : (1 : Int) ≤ (stride s.h : Int) := by omega
      apply Int.not_lt.1
      intro hn
      have h3 : s.h.h ≤ s.rows := by omega
      have h4 : s.h.h * (stride s.h : Int) ≤ s.rows * (stride s.h : Int) := Int.mul_le_mul_of_nonneg_right h3 (by omega)
      omega
    · show s.left - 1 + (s.rows + 1) * (stride s.h : Int) + ((0 : Nat) : Int) = s.h.h * (stride s.h : Int)
      rw [Int.add_mul, Int.one_mul]; omega
  · rename_i h2
    refine ⟨G.may, by show (s.cur ++ [c]).length < stride s.h; rw [List.length_append, List.length_singleton]; have := G.cur; omega, hb, G.rows0, G.rows1, .inl rfl, by show 0 ≤ s.left - 1; omega, fun _ => ?_, (fun h => by cases h), fun h4 x hx => ?_⟩
    · show s.left - 1 + s.rows * (stride s.h : Int) + (((s.cur ++ [c]).length : Nat) : Int) = s.h.h * (stride s.h : Int)
      rw [List.length_append, List.length_singleton]; omega
    · replace hx : x ∈ smp s.h (s.cur ++ [c]) := hx
      by_cases hf : (parts (wide s.h) s.cur).2.length + 1 = wide s.h
      · rw [smp_more hf] at hx
        rcases List.mem_append.1 hx with hx | hx
        · exact G.smp h4 x hx
        · rw [List.mem_singleton.1 hx]
          refine ⟨?_, Int.not_lt.1 fun hn => h1 ⟨h4, hf, hn⟩⟩
          rcases wait_in (h := s.h) G.byte with e | ⟨y, e, y0, y1, _⟩
          · rw [e]; simp [val_one]; exact c0
          · rw [e]; show 0 ≤ val [y, c]; rw [val_two]; omega
      · rw [smp_wait hf] at hx; exact G.smp h4 x hx
end Rw
end Go.Proofs.YtooilemglmndeaaGreat

/- Plain facts on rasters of bytes: what a byte more makes of a row. No condition. -/
namespace Go.Proofs.YtooilemglmndeaaGreat
open Go.RowKit
set_option linter.unusedVariables false
namespace Rw
def rest (h : Hd.H) (r : List Int) : List Int := (parts (wide h) r).2
theorem row4 {h : Hd.H} (H : May h) (h4 : h.kd = 4) {r : List Int} (hr : r.length < stride h) (c : Int) {v : Nat} (hv : min 8 (h.w - ((rowV h r).length : Int)) = (v : Int)) : rowV h (r ++ [c]) = rowV h r ++ ((Bt.eight c).take v).map (fun x => pk [x]) := by
  have hs := stride_at H
  have hm := H.m
  have h5 := hs.2.2.1 h4
  have e : (rowV h r).length = min h.w.toNat (8 * r.length) := by unfold rowV; rw [if_pos h4, List.length_map, List.length_take, Bt.bitsOf_len]
  have e8 : (rowV h r).length = 8 * r.length := by rw [e]; omega
  rw [e8] at hv
  unfold rowV
  rw [if_pos h4, if_pos h4, Bt.bitsOf_append, ← List.map_append]
  congr 1
  rw [List.take_append, Bt.bitsOf_len]
  congr 1
  show List.take _ (Bt.eight c ++ []) = _
  rw [List.append_nil]
  by_cases h8 : 8 ≤ h.w.toNat - 8 * r.length
  · rw [List.take_of_length_le (by rw [Bt.eight_len]; exact h8), List.take_of_length_le (by rw [Bt.eight_len]; omega)]
  · congr 1; omega
theorem row_wait {h : Hd.H} (h4 : h.kd ≠ 4) {r : List Int} {c : Int} (hf : ¬ (rest h r).length + 1 = wide h) : rowV h (r ++ [c]) = rowV h r ∧ oneV h (r ++ [c]) = oneV h r ∧ rest h (r ++ [c]) = rest h r ++ [c] := by
  unfold rowV oneV
  rw [if_neg h4, if_neg h4, if_neg h4, if_neg h4, smp_wait hf]
  refine ⟨rfl, rfl, ?_⟩
  unfold rest; rw [parts_wait hf]
theorem row_more {h : Hd.H} (h4 : h.kd ≠ 4) {r : List Int} {c : Int} (hf : (rest h r).length + 1 = wide h) (ho : ¬ (oneV h r).length + 1 = chan h) : rowV h (r ++ [c]) = rowV h r ∧ oneV h (r ++ [c]) = oneV h r ++ [val (rest h r ++ [c])] ∧ rest h (r ++ [c]) = [] := by
  unfold oneV at ho
  rw [if_neg h4] at ho
  unfold rowV oneV pxs
  rw [if_neg h4, if_neg h4, if_neg h4, if_neg h4, smp_more hf, parts_wait ho]
  refine ⟨rfl, rfl, ?_⟩
  unfold rest; rw [parts_full hf]
theorem row_pix {h : Hd.H} (h4 : h.kd ≠ 4) {r : List Int} {c : Int} (hf : (rest h r).length + 1 = wide h) (ho : (oneV h r).length + 1 = chan h) : rowV h (r ++ [c]) = rowV h r ++ [pk (oneV h r ++ [val (rest h r ++ [c])])] ∧ oneV h (r ++ [c]) = [] ∧ rest h (r ++ [c]) = [] := by
  unfold oneV at ho
  rw [if_neg h4] at ho
  unfold rowV oneV pxs
  rw [if_neg h4, if_neg h4, if_neg h4, if_neg h4, smp_more hf, parts_full ho]
  refine ⟨?_, rfl, ?_⟩
  · rw [List.map_append]; rfl
  · unfold rest; rw [parts_full hf]
/-- a whole row leaves nothing -/
theorem row_end {h : Hd.H} (H : May h) {r : List Int} (hr : r.length = stride h) : oneV h r = [] ∧ (h.kd ≠ 4 → rest h r = []) := by
  have hm := H.m
  have hs := stride_at H
  by_cases h4 : h.kd = 4
  · exact ⟨by unfold oneV; rw [if_pos h4], fun h => absurd h4 h⟩
  · have h5 := hs.2.2.2 h4
    have a1 := smp_len h r
    have a2 := (parts_at (wide_pos h) r).1
    have a3 := pxs_len h (smp h r)
    have a4 := (parts_at (chan_pos h) (smp h r)).1
    have e1 : (parts (wide h) r).2.length = 0 := by rcases chan_at h with ⟨_, hc⟩ | ⟨_, hc⟩ <;> rcases wide_at h with ⟨_, hw⟩ | ⟨_, hw⟩ <;> simp only [hc, hw] at a1 a2 a3 a4 h5 ⊢ <;> omega
    have e2 : (parts (chan h) (smp h r)).2.length = 0 := by rcases chan_at h with ⟨_, hc⟩ | ⟨_, hc⟩ <;> rcases wide_at h with ⟨_, hw⟩ | ⟨_, hw⟩ <;> simp only [hc, hw] at a1 a2 a3 a4 h5 ⊢ <;> omega
    exact ⟨by unfold oneV; rw [if_neg h4]; exact List.eq_nil_of_length_eq_zero e2, fun _ => List.eq_nil_of_length_eq_zero e1⟩
theorem rowV_nil (h : Hd.H) : rowV h [] = [] := by
  unfold rowV
  split
  · simp [Bt.bitsOf]
  · rfl
theorem oneV_nil (h : Hd.H) : oneV h [] = [] := by unfold oneV; split <;> rfl
end Rw
end Go.Proofs.YtooilemglmndeaaGreat

/- A text as bytes: '[]byte(s)', over any memory; told in one law for the walk. Condition: the text is short. -/
namespace Go.Proofs.YtooilemglmndeaaGreat
open Go.RowKit
set_option linter.unusedVariables false
theorem Im.bytes_below (w : World) (e : TypeId) (s : ByteArray) : Below w.heap.size w (Lib.bytesWorld w e s) :=
  ⟨by simp [Lib.bytesWorld, World.freeze, World.alloc, World.drew, -World.alloc_eq, -World.drew_eq], by simp [Lib.bytesWorld, World.freeze, World.alloc, World.drew, -World.alloc_eq, -World.drew_eq], by simp [Lib.bytesWorld, World.freeze, World.alloc, World.drew, -World.alloc_eq, -World.drew_eq], by rw [Lib.bytesWorld_size]; omega, fun k hk => Lib.bytesWorld_at_old w e s k hk⟩
theorem Im.bytes_get (s : ByteArray) (i : Nat) : (bytesOf s).getD i 0 = ((s.data.toList.getD i 0).toNat : Int) := by
  unfold bytesOf
  rw [List.getD_eq_getElem?_getD, List.getD_eq_getElem?_getD, List.getElem?_map]
  cases s.data.toList[i]? <;> rfl
end Go.Proofs.YtooilemglmndeaaGreat

/- A row's spare bits, over any memory, of bits and of the document's own answer. Condition: numbers fit their kinds. -/
namespace Go.Proofs.YtooilemglmndeaaGreat
open Go.RowKit Go.Shelf
set_option linter.unusedVariables false
namespace Bt
theorem num_bound : ∀ (l : List Int) (n : Int), (∀ x ∈ l, x = 0 ∨ x = 1) → 0 ≤ n → 0 ≤ num l n ∧ num l n + 1 ≤ (n + 1) * 2 ^ l.length
  | [], n, _, h => by simp [num, h]
  | x :: l, n, hx, h => by
    have h1 := hx x (by simp)
    have h2 := num_bound l (n * 2 + x) (fun y hy => hx y (by simp [hy])) (by omega)
    refine ⟨h2.1, Int.le_trans h2.2 ?_⟩
    rw [List.length_cons, Int.pow_succ, ← Int.mul_assoc, Int.mul_right_comm]
    exact Int.mul_le_mul_of_nonneg_right (by omega) (by exact Int.pow_nonneg (by omega))
end Bt
end Go.Proofs.YtooilemglmndeaaGreat

/- What runs in a list, over any memory, of bits. Condition: numbers fit their kinds. -/
namespace Go.Proofs.YtooilemglmndeaaGreat
open Go.RowKit Go.Shelf
set_option linter.unusedVariables false
namespace Bt
end Bt
end Go.Proofs.YtooilemglmndeaaGreat

/- What runs in a list, by the document's own answer, over any memory. Condition: numbers fit their kinds. -/
namespace Go.Proofs.YtooilemglmndeaaGreat
open Go.RowKit Go.Shelf
set_option linter.unusedVariables false
namespace Bt
end Bt
end Go.Proofs.YtooilemglmndeaaGreat

/- What has such runs, over any memory, of bits and of the document's own answer. Condition: numbers fit their kinds. -/
namespace Go.Proofs.YtooilemglmndeaaGreat
open Go.RowKit Go.Shelf
set_option linter.unusedVariables false
namespace Bt
end Bt
end Go.Proofs.YtooilemglmndeaaGreat

/- How many digits pixels have, over any memory. Condition: not too many pixels. -/
namespace Go.Proofs.YtooilemglmndeaaGreat
open Go.RowKit
set_option linter.unusedVariables false
namespace Pl
theorem decV_len (n : Int) : ((Nu.decV n).length : Int) = Nu.places n := by
  unfold Nu.decV Nu.backV Nu.places
  rw [List.length_reverse, List.length_append, List.length_map]
  split <;> simp <;> omega
theorem smp_in {p : Int} (hU : Pq.Px.U p) : (Pq.Px.smp p).length ≤ 3 ∧ ∀ s ∈ Pq.Px.smp p, 0 ≤ s ∧ s ≤ 65535 := by
  rcases Pq.Px.tri hU with ⟨a, b, c, h⟩ | ⟨a, h⟩ | h
  · rw [Pq.Px.smp3 h]
    obtain ⟨_, h⟩ := h
    refine ⟨by simp, fun s hs => ?_⟩
    simp only [List.mem_cons, List.not_mem_nil, or_false] at hs
    omega
  · rw [Pq.Px.smp1 h]
    obtain ⟨_, h⟩ := h
    refine ⟨by simp, fun s hs => ?_⟩
    simp only [List.mem_cons, List.not_mem_nil, or_false] at hs
    omega
  · rw [Pq.Px.smp0 h]
    exact ⟨by simp, fun s hs => by cases hs⟩
end Pl
theorem getD_mem {l : List Int} {k : Nat} (h : k < l.length) : l.getD k 0 ∈ l := by
  rw [List.getD_eq_getElem?_getD, List.getElem?_eq_getElem h]; exact List.getElem_mem h
end Go.Proofs.YtooilemglmndeaaGreat

/- A part of a part; what a law's walk starts from. No condition. -/
namespace Go.Proofs.YtooilemglmndeaaGreat
open Go.RowKit
set_option linter.unusedVariables false

namespace Rc
end Rc
/-- four cells in a block of the call's own -/
def P4 (w : World) (b : Nat) (t : TypeId) (p0 p1 p2 p3 : Int) : Prop := w.heap[b]? = some (.cells #[.int .i64 p0, .int .i64 p1, .int .i64 p2, .int .i64 p3] t (0, 0))
theorem P4.cells {w : World} {b : Nat} {t : TypeId} {p0 p1 p2 p3 : Int} (h : P4 w b t p0 p1 p2 p3) : w.cell? ⟨b, 0, none⟩ = some (.int .i64 p0) ∧ w.cell? ⟨b, 1, none⟩ = some (.int .i64 p1) ∧ w.cell? ⟨b, 2, none⟩ = some (.int .i64 p2) ∧ w.cell? ⟨b, 3, none⟩ = some (.int .i64 p3) := by
  have h' : w.heap[b]? = _ := h
  refine ⟨?_, ?_, ?_, ?_⟩ <;> simp [World.cell?, h']
theorem P4.lt {w : World} {b : Nat} {t : TypeId} {p0 p1 p2 p3 : Int} (h : P4 w b t p0 p1 p2 p3) : b < w.heap.size := (Array.getElem?_eq_some_iff.1 h).1
theorem P4.later {w w' : World} {b : Nat} {t : TypeId} {p0 p1 p2 p3 : Int} (h : P4 w b t p0 p1 p2 p3) (hb : Below w.heap.size w w') : P4 w' b t p0 p1 p2 p3 := (hb.block b h.lt).trans h
theorem P4.drew {w : World} {b : Nat} {t : TypeId} {p0 p1 p2 p3 : Int} (h : P4 w b t p0 p1 p2 p3) : P4 w.drew b t p0 p1 p2 p3 := h
end Go.Proofs.YtooilemglmndeaaGreat

/- The arithmetic of a counter, as small lemmas. No condition. -/
namespace Go.Proofs.YtooilemglmndeaaGreat
open Go.RowKit
theorem ownsRow_max {w : World} {base : Nat} {e : TypeId} {size : Nat} {v : Value} {n : Nat} {xs : List Value} (h : w.ownsRow base e size v n xs) : n ≤ 9223372036854775807 := by
  have hm : maxLen = 9223372036854775807 := rfl
  rcases h.2 with ⟨_, e⟩ | ⟨_, _, _, _, _, _, h1, h2, _⟩
  · omega
  · exact Nat.le_trans h1 (by omega)
theorem st_one {j g n : Nat} (h : j + (g + 1) = n) : j + 1 + g = n := by omega
theorem st_num (j : Nat) : Value.int .i64 ((j : Int) + 1) = Value.int .i64 ((j + 1 : Nat) : Int) := by simp
theorem st_lt {j g n : Nat} (h : j + (g + 1) = n) : j < n := by omega
theorem st_lti {j g n : Nat} (h : j + (g + 1) = n) : (j : Int) < (n : Int) := by omega
theorem st_wrap {j g n : Nat} (h : j + (g + 1) = n) (h9 : n ≤ 9223372036854775807) : wrap64 ((j : Int) + 1) = (j : Int) + 1 := by rw [IntWalk.wrap64_in] <;> omega
end Go.Proofs.YtooilemglmndeaaGreat

/- Layer 3: two equal pairs of integers are not unequal (an array of two). No condition. -/
namespace Go.Proofs.YtooilemglmndeaaGreat
open Go.RowKit
theorem pair_guard (a b : Operand) (xs ys : Array Value) (w : World) : (eqGuard .neq 73 a b (.agg xs) (.agg ys)).run Tryz.prog w = .ok () w := run_eqGuard_agg _ _ _ _ _ _ _ (by kernel_rfl)
theorem pair_neq (x y : Int) (w : World) : (binOp .neq 73 (.agg #[.int .i64 x, .int .i64 y]) (.agg #[.int .i64 x, .int .i64 y])).run Tryz.prog w = .ok (.bool false) w := by
  rw [run_neq_struct]
  have h : Tryz.prog.underlying 73 = some (.array 2 3) := by kernel_rfl
  have h2 (W : World) : (Go.sizeOf 3).run Tryz.prog W = .ok 1 W := by simp [Go.sizeOf, typeInfo, go_sem]; first | done | kernel_rfl
  have h3 (i : Nat) (W : World) (xs : Array Value) (z : Value) (hz : xs[i]? = some z) : (part 3 xs i).run Tryz.prog W = .ok z W := run_part_plain _ (by kernel_rfl) hz
  have e (W : World) (d : Nat) (z : Int) : (Op.equalIn (d + 1) 3 (.int .i64 z) (.int .i64 z)).run Tryz.prog W = .ok true W := by
    rw [run_equalIn_int W d _ .i64 .i64 z z Tryz.underlying3]; simp
  have p0 (W : World) : (part 3 #[.int .i64 x, .int .i64 y] 0).run Tryz.prog W = .ok (.int .i64 x) W := h3 0 W _ _ rfl
  have p1 (W : World) : (part 3 #[.int .i64 x, .int .i64 y] 1).run Tryz.prog W = .ok (.int .i64 y) W := h3 1 W _ _ rfl
  rw [show (10000 : Nat) = 9998 + 1 + 1 from rfl, Op.equalIn]
  simp only [Sem.run_bind, run_underlying h, Result.andThen_ok, h2]
  simp [Std.Legacy.Range.forIn_eq_forIn_range', List.range', e, p0, p1]
end Go.Proofs.YtooilemglmndeaaGreat

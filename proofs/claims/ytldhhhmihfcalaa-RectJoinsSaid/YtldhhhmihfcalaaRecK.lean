/- A matrix of rows, by the program, and its example. Condition: rows' lengths fit an int. -/
import Derived.Test.YtldhhhmihfcalaaRecJ
namespace Go.Proofs.Ytldhhhmihfcalaa
open Go.RowKit
set_option linter.unusedVariables false

theorem slk_src {w : World} {a : Option Addr} {n : Nat} {zs : List Int} (h : SlK .u64 w a n zs) (hn : 0 < n) : ∃ ad, a = some ad ∧ ∀ j v, (zs.map (Value.int .u64))[j]? = some v → w.cell? (ad.add j) = some v := by
  obtain ⟨b, off, rfl, hc⟩ := slk_pos h hn
  refine ⟨_, rfl, fun j v hv => ?_⟩
  rw [List.getElem?_map] at hv
  rcases Nat.lt_or_ge j zs.length with hj | hj
  · rw [List.getElem?_eq_getElem hj] at hv
    rw [addrK_add, hc j (by rw [← h.1]; exact hj), ← hv, List.getD_eq_getElem?_getD, List.getElem?_eq_getElem hj]; rfl
  · rw [List.getElem?_eq_none hj] at hv; cases hv
theorem wpList_copy_row {P : Program} {w : World} {ops : Array Oper} {rest : List Oper} {o : Oper} {a : Act} {Q : Exit → Act → World → Prop} (hgd : o.guard = none) (d s : Operand) (dT sT : TypeId)
    (ho : o.op = .call { callee := .builtin .copy, args := #[d, s], argTypes := #[dT, sT] }) (elem : TypeId) (hu : P.underlying dT = some (.slice elem)) (hsz : (P.info? elem).map (·.size) = some 1)
    (g off dLen dCap : Nat) (ad : Addr) (sLen sCap : Nat) (hd : a.eval d = .slice (some ⟨g, off, none⟩) dLen dCap) (hs : a.eval s = .slice (some ad) sLen sCap)
    (cur : List Value) (t : TypeId) (hg : w.heap[g]? = some (.cells cur.toArray t (0, 0))) (cs : List Value) (hn : cs.length = Nat.min sLen dLen)
    (hsrc : ∀ j v, cs[j]? = some v → w.cell? (ad.add j) = some v) (hfit : off + cs.length ≤ cur.length) (h1 : ∀ v ∈ cs, v.oneCell' = true)
    (h : ∀ v9, wpList P ops Q rest (a.put o.dst v9) (w.setRow g (splice cur off cs).toArray)) : wpList P ops Q (o :: rest) a w := by
  refine wpList_copy_own hgd d s dT sT ho elem hu hsz g off dLen dCap ad sLen sCap hd hs cur.toArray t hg cs hn hsrc (by simpa using hfit) h1 ?_
  have h' := h (goInt cs.length)
  unfold splice at h'
  exact h'
theorem zero_mt1 (w : World) : Sb (w.alloc (.cells #[.int .i64 0, .int .i64 0, .slice none 0 0] 27)) w.heap.size 27 (.int .i64 0) (.int .i64 0) (.slice none 0 0) := Sb.new _ _ _ _ _
set_option maxHeartbeats 1000000 in
theorem rectOf_no (a : Option Addr) (n c : Nat) (R : List (List Int)) (hn : n ≤ 9223372036854775807) (hR : ∀ i, i < n → (R.getD i []).length ≤ 9223372036854775807) (hs : Rc.sized (lenV R) n = false) (w : World) (hr : RowsK w a n R) :
    Calls Try.prog 65 #[.slice a n c] w fun e w' => e = .returned (.tuple #[.agg #[.int .i64 0, .int .i64 0, .slice none 0 0], .int .i64 1]) ∧ Below w.heap.size w w' := by
  have B := box1 w (.cells #[.int .i64 0, .int .i64 0, .slice none 0 0] 27)
  have hE := Lib.hid (zero_mt1 w)
  have hC := Lib.hid (length_any a n c R hn hR _ (hr.later B))
  have hN := Lib.hid (fun W2 => new_no (lenV R) n W2 hs)
  obtain ⟨m, hm⟩ : ∃ m : Int, (lenV R : Int) = m := ⟨_, rfl⟩
  rw [hm] at hC hN
  clear hr hm hs hR
  go_enter Try.func65, Try.ntmps65
  go_wp2_with (first
    | (go_at_call 102; refine hC.out.mono ?_; rintro e w1 ⟨rfl, rfl⟩)
    | (go_at_call 96; refine (hN.out _).mono ?_; rintro e w2 ⟨rfl, hb⟩; replace B := bel_step B hb; have E := (hE.out.later hb).alloc (.cells #[.int .i64 0, .int .i64 0, .slice none 0 0] 27); obtain ⟨e0, e1, e2⟩ := E.cells; obtain ⟨f0, f1, f2⟩ := E.fr))
  have R := E.put (.int .i64 0) (.int .i64 0) (.slice none 0 0)
  refine bodyPost_ret (ret_cell2 Try.results65 _ _ _ _ rfl (load_mt R)) rfl ?_
  exact ⟨rfl, by have := B.size; go_grown⟩
set_option maxRecDepth 100000 in
set_option maxHeartbeats 4000000 in
theorem rectOf_yes (a : Option Addr) (n c : Nat) (R : List (List Int)) (hs : Rc.sized (lenV R) n = true) (w : World) (hr : RowsK w a n R) :
    Calls Try.prog 65 #[.slice a n c] w fun e w' => ∃ g, e = .returned (.tuple #[.agg #[.int .i64 (lenV R), .int .i64 n, .slice (some ⟨g, 0, none⟩) (n * lenV R) (n * lenV R)], .int .i64 0]) ∧ OwnG w.heap.size w' g (Rc.rowsOf (fun k => R.getD k []) n) ∧ Below w.heap.size w w' := by
  obtain ⟨s1, s2, s3, s4, s5⟩ := Rc.sized_iff.1 hs
  have hrl := hr.1
  have hall : ∀ i, i < n → (R.getD i []).length = lenV R := fun i hi => lenV_all (by omega) i (by rw [hrl]; exact hi)
  have B := box1 w (.cells #[.int .i64 0, .int .i64 0, .slice none 0 0] 27)
  have hE := Lib.hid (zero_mt1 w)
  have hC := Lib.hid (length_any a n c R (by omega) (fun i hi => by rw [hall i hi]; omega) _ (hr.later B))
  have hN := Lib.hid (fun W2 => new_any (lenV R) n W2 hs)
  obtain ⟨b, off, rfl, hc⟩ : ∃ b off, a = some ⟨b, off, none⟩ ∧ ∀ i, i < n → ∃ ai ci, w.cell? ⟨b, off + i, none⟩ = some (.slice ai (R.getD i []).length ci) ∧ SlK .u64 w ai (R.getD i []).length (R.getD i []) := by
    rcases hr.2 with h | h
    · omega
    · exact h
  obtain ⟨m, hm⟩ : ∃ m, lenV R = m := ⟨_, rfl⟩
  rw [hm] at hC hN hall s1 s2 s5 ⊢
  simp only [Int.toNat_natCast] at hN
  have s6 : n * m ≤ 16777216 := by
    have e : ((n * m : Nat) : Int) = (m : Int) * (n : Int) := by rw [Int.natCast_mul, Int.mul_comm]
    omega
  obtain ⟨N, hN9⟩ : ∃ N, n * m = N := ⟨_, rfl⟩
  rw [hN9] at hN s6 ⊢
  have HN9 := Lib.hid hN9
  clear hN9
  obtain ⟨f, hf⟩ : ∃ f : Nat → List Int, f = fun k => R.getD k [] := ⟨_, rfl⟩
  have hfk : ∀ k, R.getD k [] = f k := fun k => by rw [hf]
  simp only [hfk] at hall hc ⊢
  clear hf hfk
  have HC := Lib.hid hc
  have HALL := Lib.hid hall
  have HS6 := Lib.hid s6
  clear hr hm hs hc hall s5 s6
  go_enter Try.func65, Try.ntmps65
  go_wp2_with (first
    | (go_at_call 102; refine hC.out.mono ?_; rintro e w1 ⟨rfl, rfl⟩)
    | (go_at_call 96; refine (hN.out _).mono ?_; rintro e w2 ⟨g, rfl, hg, hb⟩; have HB2 := Lib.hid hb; have HG := Lib.hid hg; clear hg hb))
  have B2 := bel_step B HB2.out
  have hz2 : w.heap.size + 1 ≤ w2.heap.size := by have := HB2.out.size; simpa using this
  have hgw : g < w2.heap.size := HG.out.lt
  have hgb : w.heap.size + 1 ≤ g := by have := HG.out.1; simpa using this
  have HE2 := Lib.hid ((hE.out.later HB2.out).alloc (.cells #[.int .i64 m, .int .i64 n, .slice (some ⟨g, 0, none⟩) N N] 27))
  have HF2 := Lib.hid (Sb.new w2 27 (.int .i64 m) (.int .i64 n) (.slice (some ⟨g, 0, none⟩) N N))
  have HG2 := Lib.hid ((HG.out.mono (base' := w.heap.size) (by simp)).alloc (.cells #[.int .i64 m, .int .i64 n, .slice (some ⟨g, 0, none⟩) N N] 27))
  have HB3 := Lib.hid (bel_step B2 (box1 w2 (.cells #[.int .i64 m, .int .i64 n, .slice (some ⟨g, 0, none⟩) N N] 27)))
  clear B B2
  go_loopw [22] (fun i wr => ∃ k : Nat, k ≤ n ∧ i = .int .i64 k ∧ Below w.heap.size w wr ∧ Sb wr w.heap.size 27 (.int .i64 0) (.int .i64 0) (.slice none 0 0) ∧ Sb wr w2.heap.size 27 (.int .i64 m) (.int .i64 n) (.slice (some ⟨g, 0, none⟩) N N) ∧ OwnG w.heap.size wr g (Rc.rowsOf (fun j => if j < k then f j else List.replicate m 0) n)) (fun i _ => n - (intOf i).toNat)
  case atStart =>
    refine ⟨0, Nat.zero_le _, rfl, HB3.out, HE2.out, HF2.out, ?_⟩
    rw [Rc.rows_noughts, HN9.out]
    exact HG2.out
  case round =>
    obtain ⟨k, hk, rfl, B, E, F, G⟩ := hrel
    by_cases hlt : k < n
    · have hq : (k : Int) < (n : Int) := by omega
      obtain ⟨ak, ck, qk, sk⟩ := HC.out k hlt
      obtain ⟨ad, rfl, hsrc⟩ := slk_src sk (by rw [HALL.out k hlt]; omega)
      have hkl := HALL.out k hlt
      rw [hkl] at qk
      have qk2 := cell_later B qk
      have r4 : k * m + m ≤ N := by
        have : (k + 1) * m ≤ n * m := Nat.mul_le_mul_right _ hlt
        rw [Nat.succ_mul, HN9.out] at this
        exact this
      have hRow := Lib.hid (fun W2 => row_any m n k g 0 N N (k * m) m s1 (by omega) (by rw [Int.natCast_mul]) rfl r4 (Nat.le_refl _) (by have := HS6.out; omega) W2)
      rw [Nat.zero_add] at hRow
      have HSRC := Lib.hid (fun j v hv => cell_later B (hsrc j v hv))
      have HKL := Lib.hid (show ((f k).map (Value.int .u64)).length = m by rw [List.length_map]; exact hkl)
      have HFIT := Lib.hid (show k * m + m ≤ (Rc.rowsOf (fun j => if j < k then f j else List.replicate m 0) n).length by rw [Rc.rowsOf_length (W := m) (fun j hj => by split; exact HALL.out j hj; simp), HN9.out]; exact r4)
      obtain ⟨f0, f1, f2⟩ := F.cells
      obtain ⟨pr, hpr⟩ : ∃ pr, k * m = pr := ⟨_, rfl⟩
      rw [hpr] at hRow r4 HFIT
      have HPR := Lib.hid hpr
      clear hpr qk sk hsrc hkl
      go_wp2_with (first
        | (go_at_call 101; refine (hRow.out _).mono ?_; rintro e w9 ⟨rfl, hb9⟩; replace G := G.later hb9; replace E := E.later hb9; replace F := F.later hb9; replace B := B.trans (hb9.mono B.size))
        | ((with_reducible show wpList _ _ _ ({ dst := _, op := .call { callee := .builtin .copy, args := _, argTypes := _ }, type := _, pos := _, after := _, guard := _ } :: _) _ _); refine wpList_copy_row rfl (.tmp 29) (.tmp 30) 22 22 rfl 88 Try.underlying22 Try.size_px g pr m m ad m ck rfl rfl _ _ G.2 ((f k).map (Value.int .u64)) (by rw [HKL.out]; simp) (fun j v hv => cell_later hb9 (HSRC.out j v hv)) (by rw [HKL.out, List.length_map]; exact HFIT.out) (one_px _) ?_; intro v9; have GX := ownG_row G pr (f k)))
      go_roundw
      case rel =>
        refine ⟨k + 1, by omega, by go_num, below_setRow B (by omega) _, E.row _ (by omega), F.row _ (by omega), ?_⟩
        rw [← HPR.out, Rc.fill_row hlt (fun j hj => HALL.out j hj) (fun j hj => by simp)] at GX
        rw [← HPR.out]
        exact GX
      case measure => simp [intOf]; omega
    · have hq : ¬ (k : Int) < (n : Int) := by omega
      obtain rfl : k = n := by omega
      obtain ⟨e0, e1', e2⟩ := E.cells
      obtain ⟨f0, f1, f2⟩ := E.fr
      obtain ⟨g0, g1, g2⟩ := F.cells
      go_wp2
      have R9 := E.put (.int .i64 m) (.int .i64 k) (.slice (some ⟨g, 0, none⟩) N N)
      refine bodyPost_ret (ret_cell2 Try.results65 _ _ _ _ rfl (load_mt R9)) rfl ?_
      refine ⟨g, rfl, ?_, by go_grown⟩
      have G' := ((G.set ⟨w.heap.size, 0, none⟩ (.int .i64 m) (by simp; omega)).set ⟨w.heap.size, 1, none⟩ (.int .i64 k) (by simp; omega)).set ⟨w.heap.size, 2, none⟩ (.slice (some ⟨g, 0, none⟩) N N) (by simp; omega)
      rwa [Rc.rowsOf_congr (g := fun j => f j) (fun j hj => by simp [hj])] at G'
end Go.Proofs.Ytldhhhmihfcalaa

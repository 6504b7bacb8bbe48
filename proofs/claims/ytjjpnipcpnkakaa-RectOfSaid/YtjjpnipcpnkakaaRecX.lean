/- A matrix of rows by the document, over any memory. Condition: rows are few and short. -/
import Derived.Test.YtjjpnipcpnkakaaRecW
import Derived.Test.YtjjpnipcpnkakaaRecP
import Derived.Test.YtjjpnipcpnkakaaRecK
import Derived.BigQuiet
import Derived.Deep.QuietTactic
namespace Go.Proofs.Ytjjpnipcpnkakaa
open Go.RowKit
set_option linter.unusedVariables false

/-- what Of hands back -/
def OfR (R : List (List Int)) (w : World) (e : Ending) (w' : World) : Prop :=
  ∃ ad c, e = .returned (.tuple #[.agg #[.int .i64 (ofV R).1, .int .i64 (ofV R).2.1, .slice ad (ofV R).2.2.1.length c], .int .i64 (ofV R).2.2.2]) ∧ OwnK .u64 w.heap.size w' ad (ofV R).2.2.1 ∧ (ofV R).2.2.1.length ≤ c ∧ c ≤ 9223372036854775807 ∧ Below w.heap.size w w'
theorem ofV_no {R : List (List Int)} (h : Rc.sized (lenV R) R.length = false) : ofV R = (0, 0, [], 1) := by unfold ofV; rw [h]; rfl
theorem ofV_yes {R : List (List Int)} (h : Rc.sized (lenV R) R.length = true) : ofV R = ((lenV R : Int), (R.length : Int), Rc.rowsOf (fun k => R.getD k []) R.length, 0) := by unfold ofV; rw [if_pos h]
theorem Sb.setU {w : World} {b : Nat} {t : TypeId} {u v x : Value} (h : Sb w b t u v x) (y : Value) : Sb (w.setCell ⟨b, 0, none⟩ y) b t y v x := by
  have h' : w.heap[b]? = _ := h
  have h1 := Go.heap_setCell_same w b 0 _ t y h'
  simpa [Sb] using h1
theorem Sb.setV {w : World} {b : Nat} {t : TypeId} {u v x : Value} (h : Sb w b t u v x) (y : Value) : Sb (w.setCell ⟨b, 1, none⟩ y) b t u y x := by
  have h' : w.heap[b]? = _ := h
  have h1 := Go.heap_setCell_same w b 1 _ t y h'
  simpa [Sb] using h1
set_option maxRecDepth 100000 in
set_option maxHeartbeats 8000000 in
theorem refOf_any (a : Option Addr) (n c : Nat) (R : List (List Int)) (w : World) (hn : n ≤ 100) (hR : ∀ i, i < n → (R.getD i []).length ≤ 100) (hr : RowsK w a n R) :
    Calls Try.prog 14 #[.slice a n c] w (OfR R w) := by
  obtain ⟨i0, hi, hz0, hz1, hz2⟩ := info_parts Try.info_px
  have hrl := hr.1
  obtain ⟨f, hf⟩ : ∃ f : Nat → List Int, f = fun k => R.getD k [] := ⟨_, rfl⟩
  have hfk : ∀ k, R.getD k [] = f k := fun k => by rw [hf]
  obtain ⟨l0, hl0⟩ : ∃ l, (f 0).length = l := ⟨_, rfl⟩
  have hl100 : l0 ≤ 100 := by
    rcases Nat.eq_zero_or_pos n with h | h
    · rw [← hl0, ← hfk, List.getD_eq_getElem?_getD, List.getElem?_eq_none (by omega)]; simp
    · rw [← hl0, ← hfk]; exact hR 0 h
  have HRow := Lib.hid hr
  have HF := Lib.hid hf; have HFK := Lib.hid hfk; have HL0 := Lib.hid hl0; have HRL := Lib.hid hrl
  have hSb : ∀ u v x : Value, Sb (w.alloc (.cells #[u, v, x] 25)) w.heap.size 25 u v x := fun u v x => Sb.new _ _ _ _ _
  have HE := Lib.hid (show Sb ((w.alloc (.cells #[.int .i64 0, .int .i64 0, .slice none 0 0] 25)).alloc (.cells #[.int .i64 0, .int .i64 0, .slice none 0 0] 25)) w.heap.size 25 (.int .i64 0) (.int .i64 0) (.slice none 0 0) from (Sb.new _ _ _ _ _).alloc _)
  have HM := Lib.hid (show Sb ((w.alloc (.cells #[.int .i64 0, .int .i64 0, .slice none 0 0] 25)).alloc (.cells #[.int .i64 0, .int .i64 0, .slice none 0 0] 25)) (w.heap.size + 1) 25 (.int .i64 0) (.int .i64 0) (.slice none 0 0) from by simpa using Sb.new (w.alloc (.cells #[.int .i64 0, .int .i64 0, .slice none 0 0] 25)) 25 (.int .i64 0) (.int .i64 0) (.slice none 0 0))
  have HB := Lib.hid (box2 w (.cells #[.int .i64 0, .int .i64 0, .slice none 0 0] 25) (.cells #[.int .i64 0, .int .i64 0, .slice none 0 0] 25))
  clear hSb hf hfk hl0 hr hR hrl
  go_enter Try.func14, Try.ntmps14
  go_wp2
  obtain ⟨W0, hW0⟩ : ∃ W0, (w.alloc (.cells #[.int .i64 0, .int .i64 0, .slice none 0 0] 25)).alloc (.cells #[.int .i64 0, .int .i64 0, .slice none 0 0] 25) = W0 := ⟨_, rfl⟩
  have hE := HE.out; have hM := HM.out; have hB := HB.out
  have hs0 : W0.heap.size = w.heap.size + 2 := by rw [← hW0]; simp
  rw [hW0] at hE hM hB ⊢
  have HE := Lib.hid hE; have HM := Lib.hid hM; have HB := Lib.hid hB
  have HS0 := Lib.hid hs0
  clear hE hM hB hW0 hs0
  go_loopg [5] n (fun g s5 wr => ∃ (k : Nat) (v : Value), k + g = n ∧ s5 = .int .i64 k ∧ Below w.heap.size w wr ∧ w.heap.size + 2 ≤ wr.heap.size ∧ Sb wr w.heap.size 25 (.int .i64 0) (.int .i64 0) (.slice none 0 0) ∧ Sb wr (w.heap.size + 1) 25 (.int .i64 (if k = 0 then 0 else (l0 : Int))) (.int .i64 k) v ∧ wr.ownsRow (w.heap.size + 2) 93 1 v (k * l0) ((Rc.rowsOf f k).map (Value.int .u64)) ∧ Hid (∀ j, j < k → (f j).length = l0) ∧ Hid (l0 = 0 → v = .slice none 0 0))
  case atStart => exact ⟨0, .slice none 0 0, by omega, rfl, HB.out, by rw [HS0.out]; omega, HE.out, by simpa using HM.out, by simpa [Rc.rowsOf_zero] using World.ownsRow_nil _ _ _ _, Lib.hid (fun j hj => by omega), Lib.hid (fun _ => rfl)⟩
  case round =>
    obtain ⟨k, v, hk, rfl, hB, hsz, hE, hM, hrow, hall, hnil⟩ := hrel
    have k0 : (0 : Int) ≤ k := Int.natCast_nonneg _
    obtain ⟨e0, e1, e2⟩ := hE.cells
    obtain ⟨x0, x1, x2⟩ := hE.fr
    cases gk with
    | zero =>
      obtain rfl : k = n := by omega
      have hlt : ¬ (k : Int) < k := by omega
      obtain ⟨Wk, hWk⟩ : ∃ Wk : Int, (if k = 0 then 0 else (l0 : Int)) = Wk := ⟨_, rfl⟩
      have hlen : (lenV R : Int) = Wk := by
        rw [← hWk]
        by_cases h0 : k = 0
        · rw [if_pos h0, List.eq_nil_of_length_eq_zero (HRL.out.trans h0)]; rfl
        · rw [if_neg h0, lenV_yes (fun i hi => by rw [HFK.out, HFK.out, hall.out i (by rw [HRL.out] at hi; exact hi), HL0.out]), HFK.out, HL0.out]
      have hrl2 : (Rc.rowsOf f k).length = k * l0 := Rc.rowsOf_length hall.out
      have hNk : ((k * l0 : Nat) : Int) = Wk * k := by
        rw [← hWk]
        by_cases h0 : k = 0
        · rw [if_pos h0, h0]; simp
        · rw [if_neg h0, Int.natCast_mul, Int.mul_comm]
      obtain ⟨N, hN⟩ : ∃ N, k * l0 = N := ⟨_, rfl⟩
      rw [hN] at hrow hrl2 hNk
      obtain ⟨ad, cap, rfl, hown, hcap⟩ := ownK_row hrl2 hrow
      have hcap2 := ownsRow_cap9 hrow
      have hof : Rc.rowsOf (fun k => R.getD k []) R.length = Rc.rowsOf f k := by rw [HRL.out]; exact Rc.rowsOf_congr (fun j _ => HFK.out j)
      have hmay : Rc.mayV Wk k N = Rc.sized (lenV R) R.length := by
        unfold Rc.mayV; rw [hlen, HRL.out, hNk]; simp
      rw [hWk] at hM
      obtain ⟨m0, m1, m2⟩ := hM.cells
      have HOW := Lib.hid hown; have HOF := Lib.hid hof; have HLEN := Lib.hid hlen; have HRL2 := Lib.hid hrl2
      have HE1 := Lib.hid hE
      have hsz9 : N ≤ 9223372036854775807 := by omega
      cases hm : Rc.sized (lenV R) R.length
      · have HMA := Lib.hid (hmay.trans hm)
        have HOV := Lib.hid (ofV_no hm)
        clear hm hmay hof hlen hrl2 hrow hown hWk hN hNk hnil hM hE hcap hcap2 hall
        go_wp2_with (go_at_call 67; refine (refMay_any Wk k ad N cap hsz9 _).mono ?_; rw [HMA.out]; rintro e w1 ⟨rfl, hb1⟩; have E2 := Lib.hid (HE1.out.later hb1); have hB2 := bel_step hB hb1; obtain ⟨p0, p1, p2⟩ := E2.out.cells; obtain ⟨r0, r1, r2⟩ := E2.out.fr)
        have RR := E2.out.put (.int .i64 0) (.int .i64 0) (.slice none 0 0)
        refine bodyPost_ret (ret_cell2 Try.results14 _ _ _ _ rfl (load_m RR)) rfl ?_
        have hBf := (((hB2.setCell (p := ⟨w.heap.size, 0, none⟩) (Nat.le_refl _) (.int .i64 0)).setCell (p := ⟨w.heap.size, 1, none⟩) (Nat.le_refl _) (.int .i64 0)).setCell (p := ⟨w.heap.size, 2, none⟩) (Nat.le_refl _) (.slice none 0 0))
        unfold OfR
        rw [HOV.out]
        exact ⟨none, 0, rfl, .inl rfl, Nat.le_refl _, by omega, hBf⟩
      · have HMA := Lib.hid (hmay.trans hm)
        have HOV := Lib.hid (ofV_yes hm)
        clear hm hmay hof hlen hrl2 hrow hown hWk hN hNk hnil hE
        go_wp2_with (go_at_call 67; refine (refMay_any Wk k ad N cap hsz9 _).mono ?_; rw [HMA.out]; rintro e w1 ⟨rfl, hb1⟩; have E2 := Lib.hid (HE1.out.later hb1); have M2 := Lib.hid (hM.later hb1); have hB2 := bel_step hB hb1; have HOW2 := Lib.hid (HOW.out.later hb1); obtain ⟨p0, p1, p2⟩ := E2.out.cells; obtain ⟨r0, r1, r2⟩ := E2.out.fr; obtain ⟨q0, q1, q2⟩ := M2.out.cells; clear hb1)
        have RR := E2.out.put (.int .i64 Wk) (.int .i64 k) (.slice ad N cap)
        refine bodyPost_ret (ret_cell2 Try.results14 _ _ _ _ rfl (load_m RR)) rfl ?_
        have hBf := (((hB2.setCell (p := ⟨w.heap.size, 0, none⟩) (Nat.le_refl _) (.int .i64 Wk)).setCell (p := ⟨w.heap.size, 1, none⟩) (Nat.le_refl _) (.int .i64 k)).setCell (p := ⟨w.heap.size, 2, none⟩) (Nat.le_refl _) (.slice ad N cap))
        unfold OfR
        rw [HOV.out]
        simp only [HOF.out]
        simp only [HLEN.out, HRL.out, HRL2.out]
        exact ⟨ad, cap, rfl, (ownK_set (ownK_set (ownK_set HOW2.out (a := ⟨w.heap.size, 0, none⟩) (by simp) _) (a := ⟨w.heap.size, 1, none⟩) (by simp) _) (a := ⟨w.heap.size, 2, none⟩) (by simp) _).mono (by omega), hcap, hcap2, hBf⟩
    | succ g =>
      have hlt : (k : Int) < n := by omega
      obtain ⟨b, off, rfl, hc⟩ : ∃ b off, a = some ⟨b, off, none⟩ ∧ ∀ i, i < n → ∃ ai ci, w.cell? ⟨b, off + i, none⟩ = some (.slice ai (R.getD i []).length ci) ∧ SlK .u64 w ai (R.getD i []).length (R.getD i []) := by
        rcases HRow.out.2 with h | h
        · omega
        · exact h
      obtain ⟨ai, ci, hck, hsk⟩ := hc k (by omega)
      obtain ⟨a0, c0, hc0, -⟩ := hc 0 (by omega)
      rw [HFK.out] at hck hsk hc0
      rw [HL0.out, Nat.add_zero] at hc0
      have HSKW := Lib.hid hsk
      obtain ⟨lk, hlk⟩ : ∃ l, (f k).length = l := ⟨_, rfl⟩
      rw [hlk] at hck HSKW
      have HCK := Lib.hid hck
      replace hck := cell_later hB hck
      replace hc0 := cell_later hB hc0
      have HLK := Lib.hid hlk
      have HE1 := Lib.hid hE; have HM1 := Lib.hid hM; have HRW := Lib.hid hrow
      obtain ⟨m0, m1, m2⟩ := hM.cells
      obtain ⟨y0, y1, y2⟩ := hM.fr
      clear hc hsk hlk hE hM hrow
      by_cases heq : lk = l0
      · subst heq
        have hlb : ((lk : Int) != lk) = false := by simp
        go_wp2
        go_quiet (fail)
        go_wp2
        obtain ⟨W1, hW1⟩ : ∃ W1, ((wr.drewN nq).setCell ⟨w.heap.size + 1, 0, none⟩ (.int .i64 lk)).setCell ⟨w.heap.size + 1, 1, none⟩ (.int .i64 ((k : Int) + 1)) = W1 := ⟨_, rfl⟩
        have hB1 : Below w.heap.size w W1 := by rw [← hW1]; exact ((bel_drewN hB nq).setCell (p := ⟨w.heap.size + 1, 0, none⟩) (by simp) _).setCell (p := ⟨w.heap.size + 1, 1, none⟩) (by simp) _
        have hE2 : Sb W1 w.heap.size 25 (.int .i64 0) (.int .i64 0) (.slice none 0 0) := by
          rw [← hW1]; exact ((show Sb (wr.drewN nq) w.heap.size 25 (.int .i64 0) (.int .i64 0) (.slice none 0 0) from HE1.out).set _ _ (by simp)).set _ _ (by simp)
        have hM2 : Sb W1 (w.heap.size + 1) 25 (.int .i64 lk) (.int .i64 ((k : Int) + 1)) v := by
          rw [← hW1]; exact ((show Sb (wr.drewN nq) (w.heap.size + 1) 25 _ (.int .i64 k) v from HM1.out).setU _).setV _
        have hrow2 : W1.ownsRow (w.heap.size + 2) 93 1 v (k * lk) ((Rc.rowsOf f k).map (Value.int .u64)) := by
          rw [← hW1]; exact ownsRow_set (ownsRow_set (show World.ownsRow (wr.drewN nq) _ _ _ _ _ _ from HRW.out) (a := ⟨w.heap.size + 1, 0, none⟩) (by simp) _) (a := ⟨w.heap.size + 1, 1, none⟩) (by simp) _
        have hsz1 : w.heap.size + 2 ≤ W1.heap.size := by rw [← hW1]; simpa using hsz
        have hck1 := cell_later hB1 HCK.out
        have HSK1 := Lib.hid (HSKW.out.below hB1)
        rw [hW1]
        clear hW1 hck hc0 m0 m1 m2 y0 y1 y2 hB hsz e0 e1 e2 x0 x1 x2
        have hcat : (Rc.rowsOf f k).map (Value.int .u64) ++ (f k).map (Value.int .u64) = (Rc.rowsOf f (k + 1)).map (Value.int .u64) := by rw [Rc.rowsOf_succ, List.map_append]
        have hmul : k * lk + lk = (k + 1) * lk := (Nat.succ_mul k lk).symm
        have hkl : k * lk ≤ 10000 := Nat.le_trans (Nat.mul_le_mul (show k ≤ 100 by omega) hl100) (by decide)
        have HCAT := Lib.hid hcat; have HMUL := Lib.hid hmul; have HE2 := Lib.hid hE2; have HR2 := Lib.hid hrow2; have HM2 := Lib.hid hM2; have HB1 := Lib.hid hB1
        obtain ⟨n0, n1, n2⟩ := hM2.cells
        obtain ⟨z0, z1, z2⟩ := hM2.fr
        obtain ⟨N, hN⟩ : ∃ N, k * lk = N := ⟨_, rfl⟩
        rw [hN] at HR2 HMUL hkl
        clear hcat hmul hE2 hrow2 hM2 hN hB1
        by_cases h0 : lk = 0
        · subst h0
          have hv := hnil.out rfl
          subst hv
          have hlk0 := HSK1.out
          have hallk : ∀ j, j < k + 1 → (f j).length = 0 := fun j hj => by
            rcases Nat.lt_or_ge j k with hjk | hjk
            · exact hall.out j hjk
            · obtain rfl : j = k := by omega
              exact HLK.out
          have hz9 : Rc.rowsOf f (k + 1) = [] := List.eq_nil_of_length_eq_zero (by rw [Rc.rowsOf_length hallk, Nat.mul_zero])
          have HALLK := Lib.hid hallk
          have HZ9 := Lib.hid hz9
          clear hallk hz9 hlk0
          rcases ai with _ | ad
          all_goals
            go_region
            go_wp2
            go_roundg g
            case measure => omega
            case rel =>
              exact ⟨k + 1, .slice none 0 0, by omega, by go_num, (HB1.out.setCell (p := ⟨w.heap.size + 1, 2, none⟩) (by simp) _).drew, by simpa using hsz1, (HE2.out.set _ _ (by simp)), by simpa using (HM2.out.setL (.slice none 0 0)).drew, by rw [HZ9.out, Nat.mul_zero]; exact World.ownsRow_nil _ _ _ _, HALLK, Lib.hid fun _ => rfl⟩
        · obtain ⟨ad, rfl, hsrc⟩ := slk_src HSK1.out (Nat.pos_of_ne_zero h0)
          have HSRC := Lib.hid hsrc
          have hl1 : 0 < lk := by omega
          clear hsrc h0
          go_region_law (first
            | (refine step_append_lies _ rfl _ _ 23 rfl (w.heap.size + 2) 93 i0 (.int .u64 0) 1 8 Try.underlying23 hi hz0 hz1 hz2 rfl (by decide) v N _ rfl HR2.out ad lk ci ((f k).map (Value.int .u64)) rfl (by rw [List.length_map, HLK.out, Nat.mul_one]) HSRC.out (ints_oneCell _ _) hl1 (by unfold maxLen; omega) (by omega) hsz1 _ rfl ?_; intro gg cc w5 hown' hgrow' _ _; obtain ⟨u1, u2, u3, u4, u5⟩ := pushL0 (W := W1.drew) HM2.out HR2.out (Nat.lt_succ_self _) hsz1 hown' hgrow'; obtain ⟨k3, k4, k2⟩ := u1.cells; obtain ⟨k5, k6, k7⟩ := u1.fr))
          all_goals
            have HU2 := Lib.hid u2; have HU3 := Lib.hid u3; have HU4 := Lib.hid (u4 _ (Nat.le_refl _)); have HU5 := Lib.hid u5
            clear u1 u2 u3 u4 u5 k2 k3 k4 k5 k6 k7 n0 n1 n2 z0 z1 z2 hown' hgrow' hck1
            go_wp2
            go_roundg g
            case measure => omega
            case rel =>
              refine ⟨k + 1, .slice (some ⟨gg, 0, none⟩) (N + lk) cc, by omega, by go_num, HB1.out.drew.trans (HU4.out.mono (by omega)), HU5.out, (HU4.out.block w.heap.size (by omega)).trans HE2.out, by simpa using HU2.out, by rw [← HMUL.out, ← HCAT.out]; exact HU3.out, Lib.hid (fun j hj => ?_), Lib.hid fun h => by omega⟩
              rcases Nat.lt_or_ge j k with hjk | hjk
              · exact hall.out j hjk
              · obtain rfl : j = k := by omega
                exact HLK.out
      · have hneb : ((lk : Int) != l0) = true := by simp; omega
        have hno : Rc.sized (lenV R) R.length = false := by
          rw [lenV_no (i := k) (by rw [HRL.out]; omega) (by rw [HFK.out, HFK.out, HLK.out, HL0.out]; exact heq)]
          simp [Rc.sized]
        have HOV := Lib.hid (ofV_no hno)
        clear hno heq
        go_wp2
        go_quiet (fail)
        go_wp2
        have RR := (show Sb (wr.drewN nq) w.heap.size 25 (.int .i64 0) (.int .i64 0) (.slice none 0 0) from HE1.out).put (.int .i64 0) (.int .i64 0) (.slice none 0 0)
        refine bodyPost_ret (ret_cell2 Try.results14 _ _ _ _ rfl (load_m RR)) rfl ?_
        have hBf := ((((bel_drewN hB nq).setCell (p := ⟨w.heap.size, 0, none⟩) (Nat.le_refl _) (.int .i64 0)).setCell (p := ⟨w.heap.size, 1, none⟩) (Nat.le_refl _) (.int .i64 0)).setCell (p := ⟨w.heap.size, 2, none⟩) (Nat.le_refl _) (.slice none 0 0))
        unfold OfR
        rw [HOV.out]
        exact ⟨none, 0, rfl, .inl rfl, Nat.le_refl _, by omega, hBf⟩
end Go.Proofs.Ytjjpnipcpnkakaa

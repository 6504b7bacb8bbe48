/- All ways to lay a matrix that are not the same, and which is of which turn, by the document's own answer, over any memory. Condition: the matrix is one that Good makes; there are at most nine turns, and one at least. -/
import Derived.Test.YteonfgphihacgaaTurOA
namespace Go.Proofs.Yteonfgphihacgaa
open Go.RowKit
set_option linter.unusedVariables false

theorem mk_key2 {most W H g : Nat} {L : List Int} (h : Mk most W H L) (hm : most ≤ 8) : Tu.keyOf W H L g = some (Tu.sw g W H, Tu.sw g H W, Tu.layL g W H L) := by
  unfold Tu.keyOf
  rw [if_pos (mk_sized h hm)]
/-- is entry i the one? -/
def hitF (es : List Fnt) (P Q : Nat) (T : List Int) (i : Nat) : Bool := match (es.map Fnt.key)[i]? with | some e => Tu.isKey (P, Q, T) e | none => false
theorem hit_place (es : List Fnt) (P Q : Nat) (T : List Int) : Tu.firstI (hitF es P Q T) es.length = Tu.placeK (es.map Fnt.key) (P, Q, T) := by
  unfold Tu.placeK hitF; rw [List.length_map]; rfl
theorem hit_at {es : List Fnt} {e : Fnt} {P Q i : Nat} {T : List Int} (h : es[i]? = some e) : hitF es P Q T i = (decide (((e.1 : Nat) : Int) = P) && (decide (((e.2.1 : Nat) : Int) = Q) && decide (e.2.2.2.2 = T))) := by
  unfold hitF
  rw [List.getElem?_map, h]
  rfl
theorem slk_set3 {s j n : Nat} {w : World} {ad : Option Addr} {u v x : Value} {T : List Int} (hs : SlK .u64 w ad n T) (ho : Old s w ad) (hb : Sb w j 53 u v x) (hj : s ≤ j) (p y z : Value) : SlK .u64 (((w.setCell ⟨j, 0, none⟩ p).setCell ⟨j, 1, none⟩ y).setCell ⟨j, 2, none⟩ z) ad n T := by
  refine ⟨hs.1, ?_⟩
  rcases hs.2 with h | ⟨b, off, e, hc⟩
  · exact .inl h
  · have hne : b ≠ j := fun e' => by
      rcases ho b off e with h1 | ⟨cs, hc⟩
      · omega
      · subst e'
        have hb' : w.heap[b]? = _ := hb
        rw [hb'] at hc
        injection hc with hc
        injection hc with _ ht _
        exact px_ne_m ht.symm
    refine .inr ⟨b, off, e, fun i hi => ?_⟩
    rw [World.cell?_setCell_other _ _ _ _ (fun e => by have := congrArg Addr.block e; simp at this; omega), World.cell?_setCell_other _ _ _ _ (fun e => by have := congrArg Addr.block e; simp at this; omega), World.cell?_setCell_other _ _ _ _ (fun e => by have := congrArg Addr.block e; simp at this; omega)]
    exact hc i hi
def OrbF (W H : Nat) (L ts : List Int) (i : Nat) (es : List Fnt) (pl : List Int) : Prop := es.map Fnt.key = (Tu.orbO W H L (ts.take i)).1 ∧ pl = (Tu.orbO W H L (ts.take i)).2 ∧ es.length ≤ i
theorem orbF_next {W H : Nat} {L ts : List Int} {i : Nat} {es es' : List Fnt} {pl : List Int} (h : OrbF W H L ts i es pl) (hi : i < ts.length) {p : Int}
    (h1 : Tu.stepO W H L (es.map Fnt.key) (ts.getD i 0) = (es'.map Fnt.key, p)) (h3 : es'.length ≤ i + 1) : OrbF W H L ts (i + 1) es' (pl ++ [p]) := by
  obtain ⟨a2, a3, a4⟩ := h
  have e := Tu.orb_take W H L ts hi
  rw [← a2, h1] at e
  exact ⟨by rw [e], by rw [e, a3], h3⟩
set_option maxRecDepth 100000 in
set_option maxHeartbeats 16000000 in
theorem refOrbit_pos {most W H n : Nat} {L : List Int} (hmk : Mk most W H L) (hm : most ≤ 8) (hn : W * H = n) (b1 off1 : Nat) (a : Option Addr) (c len cap : Nat) (ts : List Int) (hc : n ≤ c) (hc2 : c ≤ 9223372036854775807) (hlen : len ≤ 9) (w : World) (hs : SlK .u64 w a n L) (hl : ts.length = len) (ht : ∀ i, i < len → w.cell? ⟨b1, off1 + i, none⟩ = some (.int .i64 (ts.getD i 0))) :
    Calls Try.prog 56 #[.agg #[.int .i64 W, .int .i64 H, .slice a n c], .slice (some ⟨b1, off1, none⟩) len cap] w fun e w' =>
      ∃ (v : Value) (es : List Fnt) (v2 : Value), e = .returned (.tuple #[v, v2]) ∧ es.map Fnt.key = (Tu.orbO W H L ts).1 ∧ w'.ownsRow (w.heap.size + 1) 53 3 v es.length (fnts n es) ∧ Fie n (w.heap.size + 1) w' es ∧ w'.ownsRow (w.heap.size + 1) 3 1 v2 (Tu.orbO W H L ts).2.length ((Tu.orbO W H L ts).2.map (Value.int .i64)) ∧ Below w.heap.size w w' := by
  have hn64 : n ≤ 64 := hn ▸ mk_n hmk hm
  have hn0 : 0 < n := hn ▸ Nat.mul_pos hmk.1 hmk.2.2.1
  have hLn : L.length = n := hmk.2.2.2.2.trans hn
  have HMK := Lib.hid hmk
  have HMO := Lib.hid hm
  have HN := Lib.hid hn
  have HLn := Lib.hid hLn
  have HT := Lib.hid ht
  have HTL := Lib.hid hl
  have B := box1 w (.cells #[.int .i64 W, .int .i64 H, .slice a n c] 53)
  have X := Sb.new w 53 (.int .i64 W) (.int .i64 H) (.slice a n c)
  have S := hs.below B
  have hold : Old (w.heap.size + 1) (w.alloc (.cells #[.int .i64 W, .int .i64 H, .slice a n c] 53)) a := fun b off e => by
    rcases old_sl hs hn0 b off e with h | ⟨cs, hc⟩
    · exact .inl (by omega)
    · exact .inl (by have := (Array.getElem?_eq_some_iff.1 hc).1; omega)
  obtain ⟨W1, hW1⟩ : ∃ W1, w.alloc (.cells #[.int .i64 W, .int .i64 H, .slice a n c] 53) = W1 := ⟨_, rfl⟩
  have hz1 : w.heap.size + 1 ≤ W1.heap.size := by rw [← hW1]; simp
  have HZ1 := Lib.hid (show W1.heap.size = w.heap.size + 1 by rw [← hW1]; simp)
  rw [hW1] at B X S hold
  have HB := Lib.hid B
  have HX := Lib.hid X
  have HS := Lib.hid S
  have HOLD := Lib.hid hold
  have HT1 := Lib.hid (fun i hi => cell_later B (ht i hi))
  obtain ⟨i0, hinf, hz0, hzs, hz2⟩ := info_parts Try.info_in
  obtain ⟨j0, ji, jz0, jzs, jz2⟩ := info_parts Try.info_md
  clear hmk hm hn hLn hl ht hs B X S hold
  go_enter Try.func56, Try.ntmps56
  go_wp2
  clear hW1
  go_loopg [6, 7, 8] len (fun gg s6 s7 s8 wr => ∃ (i : Nat) (es : List Fnt) (pl : List Int), i + gg = len ∧ s8 = .int .i64 i ∧ Below w.heap.size w wr ∧ Below W1.heap.size W1 wr ∧ w.heap.size + 1 ≤ wr.heap.size ∧ wr.ownsRow (w.heap.size + 1) 53 3 s6 es.length (fnts n es) ∧ Fie n (w.heap.size + 1) wr es ∧ wr.ownsRow (w.heap.size + 1) 3 1 s7 pl.length (pl.map (Value.int .i64)) ∧ Hid (OrbF W H L ts i es pl))
  case atStart => exact ⟨0, [], [], by omega, rfl, HB.out, Below.refl _ _, hz1, World.ownsRow_nil _ _ _ _, fun e he => absurd he (by simp), World.ownsRow_nil _ _ _ _, ⟨rfl, rfl, Nat.le_refl _⟩⟩
  case round =>
    obtain ⟨i, es, pl, hi, rfl, hB, hB1, hz, hrow, hfie, hrow2, hO⟩ := hrel
    have HBr := Lib.hid hB
    have HB1 := Lib.hid hB1
    have HR := Lib.hid hrow
    have HF := Lib.hid hfie
    have HR2 := Lib.hid hrow2
    clear hB hB1 hrow hfie hrow2
    cases gk with
    | zero =>
      have hil : i = len := by omega
      have hlt : ¬ (i : Int) < (len : Int) := by omega
      have ho := hO.out
      rw [hil] at ho
      obtain ⟨o1, o2, o3⟩ := ho
      rw [List.take_of_length_le (by rw [HTL.out]; exact Nat.le_refl _)] at o1 o2
      have HO1 := Lib.hid o1
      have HO2 := Lib.hid o2
      clear o1 o2 o3
      go_wp2
      go_ret2
      exact ⟨_, es, _, rfl, HO1.out, HR.out, HF.out, by have := HR2.out; rw [HO2.out] at this; exact this, HBr.out⟩
    | succ gg =>
      have hil : i < len := by omega
      have hlt : (i : Int) < (len : Int) := by omega
      have hcv := cell_later HB1.out (HT1.out i hil)
      obtain ⟨gv, hgv⟩ : ∃ gv, ts.getD i 0 = gv := ⟨_, rfl⟩
      rw [hgv] at hcv
      have HGV := Lib.hid hgv
      have hpl : pl.length ≤ 8 := by rw [hO.out.2.1, orb_len, List.length_take]; omega
      have hes : es.length ≤ 8 := by have := hO.out.2.2; omega
      obtain ⟨x0, x1, x2⟩ := (HX.out.later HB1.out).cells
      have hBt := Below.refl wr.heap.size wr
      clear hgv
      cases hT : Tu.isT gv with
      | false =>
        have HTV := Lib.hid hT
        clear hT
        go_wp2_with fail
        go_cut [9, 10] (fun s9 s10 wx => ∃ na, s9 = .pointer (some ⟨na, 0, none⟩) ∧ s10 = .int .i64 1 ∧ Below wr.heap.size wr wx)
        case first =>
          go_region_held3 (fun w' => w'.cell? ⟨w.heap.size, 0, none⟩ = some (.int .i64 W) ∧ w'.cell? ⟨w.heap.size, 1, none⟩ = some (.int .i64 H) ∧ w'.cell? ⟨w.heap.size, 2, none⟩ = some (.slice a n c) ∧ w'.cell? ⟨b1, off1 + i, none⟩ = some (.int .i64 gv))
            (first | exact ⟨x0, x1, x2, hcv⟩ | exact ⟨cell_later (by repeat' (first | (with_reducible exact hBt) | (with_reducible refine Below.alloc ?_ ?_ _) | (with_reducible refine Below.drew ?_) | (with_reducible refine below_drewN ?_ _) | (with_reducible refine Below.setCell ?_ ?_ _) | exact hBt.size | (have := hBt.size; first | omega | (simp; done) | (simp; omega)))) x0, cell_later (by repeat' (first | (with_reducible exact hBt) | (with_reducible refine Below.alloc ?_ ?_ _) | (with_reducible refine Below.drew ?_) | (with_reducible refine below_drewN ?_ _) | (with_reducible refine Below.setCell ?_ ?_ _) | exact hBt.size | (have := hBt.size; first | omega | (simp; done) | (simp; omega)))) x1, cell_later (by repeat' (first | (with_reducible exact hBt) | (with_reducible refine Below.alloc ?_ ?_ _) | (with_reducible refine Below.drew ?_) | (with_reducible refine below_drewN ?_ _) | (with_reducible refine Below.setCell ?_ ?_ _) | exact hBt.size | (have := hBt.size; first | omega | (simp; done) | (simp; omega)))) x2, cell_later (by repeat' (first | (with_reducible exact hBt) | (with_reducible refine Below.alloc ?_ ?_ _) | (with_reducible refine Below.drew ?_) | (with_reducible refine below_drewN ?_ _) | (with_reducible refine Below.setCell ?_ ?_ _) | exact hBt.size | (have := hBt.size; first | omega | (simp; done) | (simp; omega)))) hcv⟩)
            (first
              | (go_at_call 81; refine (refLay_arg _ _ gv _ _ _ HTV.out _).mono ?_; rintro e w9 ⟨rfl, hb9⟩; replace hBt := bel_step (w := wr) (by repeat' (first | (with_reducible exact hBt) | (with_reducible refine Below.alloc ?_ ?_ _) | (with_reducible refine Below.drew ?_) | (with_reducible refine below_drewN ?_ _) | (with_reducible refine Below.setCell ?_ ?_ _) | exact hBt.size | (have := hBt.size; first | omega | (simp; done) | (simp; omega)))) hb9; have hsz9 := hBt.size; (try (have hnl9 := hNB.lt)); (try replace hNB := hNB.later hb9); (try ((first | have hNB := Sb.later (Sb.new _ _ _ _ _) hb9 | have hNB := Sb.later (Sb.drew (Sb.new _ _ _ _ _)) hb9); (try simp only [World.size_drew, size_drewN'] at hNB))); (try (obtain ⟨z0, z1, z2⟩ := hNB.cells)); (try (obtain ⟨y0, y1, y2⟩ := hNB.fr))))
          all_goals
            go_wp2_with fail
            go_meet
            case rel => exact ⟨_, rfl, rfl, (by repeat' (first | (with_reducible exact hBt) | (with_reducible refine Below.alloc ?_ ?_ _) | (with_reducible refine Below.drew ?_) | (with_reducible refine below_drewN ?_ _) | (with_reducible refine Below.setCell ?_ ?_ _) | exact hBt.size | (have := hBt.size; first | omega | (simp; done) | (simp; omega))))⟩
        case rest =>
          obtain ⟨na, rfl, rfl, hBx⟩ := hcut
          have HBc := Lib.hid (HBr.out.trans (hBx.mono HBr.out.size))
          have HB1c := Lib.hid (HB1.out.trans (hBx.mono HB1.out.size))
          have hrow2c := ownsRow_later HR2.out hBx
          have hrowc := ownsRow_later HR.out hBx
          have hfiec := HF.out.later hBx
          have hzc : w.heap.size + 1 ≤ wc.heap.size := Nat.le_trans hz hBx.size
          clear hBx hBt x0 x1 x2 hcv
          go_wp2_with (at_builtin; refine wpList_append_own _ rfl _ _ 40 rfl (w.heap.size + 1) 3 i0 (.int .i64 0) 1 8 Try.underlying40 hinf hz0 hzs hz2 rfl (by decide) _ pl.length _ rfl (hrow2c.alloc _) ⟨wc.heap.size, 0, none⟩ 1 1 [.int .i64 (-1)] rfl rfl (cell_one_new _ _ _) (by simp [Value.oneCell']) (by unfold maxLen; omega) (by omega) (by simp; omega) ?_; intro v' w7 hown' hgrow' hnil)
          have hgr := grown_trans (box1 wc (.cells #[.int .i64 (-1)] 3)) hgrow'
          have HG1 := Lib.hid (HBc.out.grown hgr (by omega) (fun j hj => by have := (hrow2c.lt j hj).1; omega))
          have HG2 := Lib.hid (HB1c.out.grown hgr HB1c.out.size (fun j hj => by have := (hrow2c.lt j hj).1; have := HZ1.out; omega))
          have HG3 := Lib.hid (hrowc.kept hgr (row_ne hrowc hrow2c (by decide)))
          have HG4 := Lib.hid (hfiec.grown hrow2c (by decide) (Nat.le_refl _) hgr)
          have hz7 : w.heap.size + 1 ≤ w7.heap.size := Nat.le_trans hzc hgr.size
          have HG5 := Lib.hid hown'
          clear hown' hgrow' hnil hgr hrow2c hrowc hfiec
          go_roundg gg
          case measure => omega
          case rel =>
            refine ⟨i + 1, es, pl ++ [-1], by omega, by go_num, HG1.out, HG2.out, hz7, HG3.out, HG4.out, by rw [List.length_append, List.map_append]; exact HG5.out, ?_⟩
            refine orbF_next hO.out (by rw [HTL.out]; exact hil) ?_ (by have := hO.out.2.2; omega)
            rw [HGV.out]; unfold Tu.stepO; rw [HTV.out]; rfl
      | true =>
        obtain ⟨g, hg8, rfl⟩ := Tu.isT_nat hT
        have HTV := Lib.hid hT
        have hL := fun w2 h1 h2 => refLay_ty W H g a c L hg8 HMK.out.1 (by have := HMK.out.2.1; have := HMO.out; omega) HMK.out.2.2.1 (by have := HMK.out.2.2.2.1; have := HMO.out; omega) HMK.out.2.2.2.2 (by rw [HLn.out]; exact hc) hc2 (w.heap.size + 1) w2 h1 h2
        have hst : Tu.stepO W H L (es.map Fnt.key) (g : Int) = Tu.addK (es.map Fnt.key) (some (Tu.sw g W H, Tu.sw g H W, Tu.layL g W H L)) := by
          unfold Tu.stepO; rw [if_pos hT, Int.toNat_natCast, mk_key2 HMK.out HMO.out]
        obtain ⟨P, hP⟩ : ∃ P, Tu.sw g W H = P := ⟨_, rfl⟩
        obtain ⟨Q, hQ⟩ : ∃ Q, Tu.sw g H W = Q := ⟨_, rfl⟩
        obtain ⟨T, hTT⟩ : ∃ T, Tu.layL g W H L = T := ⟨_, rfl⟩
        rw [hP, hQ, hTT, HLn.out, HN.out] at hL
        rw [hP, hQ, hTT] at hst
        have HL := Lib.hid hL
        have HST := Lib.hid hst
        have HSw := Lib.hid (HS.out.below HB1.out)
        have HOw := Lib.hid (HOLD.out.later HB1.out)
        clear hT hL hst hP hQ hTT
        go_wp2_with fail
        go_cut [9, 10] (fun s9 s10 wx => ∃ na ad cp, s9 = .pointer (some ⟨na, 0, none⟩) ∧ s10 = .int .i64 0 ∧ Sb wx na 53 (.int .i64 P) (.int .i64 Q) (.slice ad n cp) ∧ SlK .u64 wx ad n T ∧ Old (w.heap.size + 1) wx ad ∧ Below wr.heap.size wr wx)
        case first =>
          go_region_held3 (fun w' => w'.cell? ⟨w.heap.size, 0, none⟩ = some (.int .i64 W) ∧ w'.cell? ⟨w.heap.size, 1, none⟩ = some (.int .i64 H) ∧ w'.cell? ⟨w.heap.size, 2, none⟩ = some (.slice a n c) ∧ w'.cell? ⟨b1, off1 + i, none⟩ = some (.int .i64 g))
            (first | exact ⟨x0, x1, x2, hcv⟩ | exact ⟨cell_later (by repeat' (first | (with_reducible exact hBt) | (with_reducible refine Below.alloc ?_ ?_ _) | (with_reducible refine Below.drew ?_) | (with_reducible refine below_drewN ?_ _) | (with_reducible refine Below.setCell ?_ ?_ _) | exact hBt.size | (have := hBt.size; first | omega | (simp; done) | (simp; omega)))) x0, cell_later (by repeat' (first | (with_reducible exact hBt) | (with_reducible refine Below.alloc ?_ ?_ _) | (with_reducible refine Below.drew ?_) | (with_reducible refine below_drewN ?_ _) | (with_reducible refine Below.setCell ?_ ?_ _) | exact hBt.size | (have := hBt.size; first | omega | (simp; done) | (simp; omega)))) x1, cell_later (by repeat' (first | (with_reducible exact hBt) | (with_reducible refine Below.alloc ?_ ?_ _) | (with_reducible refine Below.drew ?_) | (with_reducible refine below_drewN ?_ _) | (with_reducible refine Below.setCell ?_ ?_ _) | exact hBt.size | (have := hBt.size; first | omega | (simp; done) | (simp; omega)))) x2, cell_later (by repeat' (first | (with_reducible exact hBt) | (with_reducible refine Below.alloc ?_ ?_ _) | (with_reducible refine Below.drew ?_) | (with_reducible refine below_drewN ?_ _) | (with_reducible refine Below.setCell ?_ ?_ _) | exact hBt.size | (have := hBt.size; first | omega | (simp; done) | (simp; omega)))) hcv⟩)
            (first
              | (go_at_call 81; refine (HL.out _ (HSw.out.below (by repeat' (first | (with_reducible exact hBt) | (with_reducible refine Below.alloc ?_ ?_ _) | (with_reducible refine Below.drew ?_) | (with_reducible refine below_drewN ?_ _) | (with_reducible refine Below.setCell ?_ ?_ _) | exact hBt.size | (have := hBt.size; first | omega | (simp; done) | (simp; omega))))) (HOw.out.later (by repeat' (first | (with_reducible exact hBt) | (with_reducible refine Below.alloc ?_ ?_ _) | (with_reducible refine Below.drew ?_) | (with_reducible refine below_drewN ?_ _) | (with_reducible refine Below.setCell ?_ ?_ _) | exact hBt.size | (have := hBt.size; first | omega | (simp; done) | (simp; omega)))))).mono ?_; rintro e w9 ⟨ad9, cp9, rfl, hsl9, hcA, hcB, hold9, hb9⟩; replace hBt := bel_step (w := wr) (by repeat' (first | (with_reducible exact hBt) | (with_reducible refine Below.alloc ?_ ?_ _) | (with_reducible refine Below.drew ?_) | (with_reducible refine below_drewN ?_ _) | (with_reducible refine Below.setCell ?_ ?_ _) | exact hBt.size | (have := hBt.size; first | omega | (simp; done) | (simp; omega)))) hb9; have hsz9 := hBt.size; (try (have hnl9 := hNB.lt)); (try replace hNB := hNB.later hb9); (try ((first | have hNB := Sb.later (Sb.new _ _ _ _ _) hb9 | have hNB := Sb.later (Sb.drew (Sb.new _ _ _ _ _)) hb9); (try simp only [World.size_drew, size_drewN'] at hNB))); (try (obtain ⟨z0, z1, z2⟩ := hNB.cells)); (try (obtain ⟨y0, y1, y2⟩ := hNB.fr))))
          all_goals
            go_wp2_with fail
            go_meet
            case rel =>
              first
                | exact ⟨_, _, _, rfl, rfl, Sb.new _ _ _ _ _, hsl9.below (box1 _ _), hold9.later (box1 _ _), (by repeat' (first | (with_reducible exact hBt) | (with_reducible refine Below.alloc ?_ ?_ _) | (with_reducible refine Below.drew ?_) | (with_reducible refine below_drewN ?_ _) | (with_reducible refine Below.setCell ?_ ?_ _) | exact hBt.size | (have := hBt.size; first | omega | (simp; done) | (simp; omega))))⟩
                | exact ⟨_, _, _, rfl, rfl, hNB.put _ _ _, slk_set3 hsl9 hold9 hNB (by omega) _ _ _, hold9.set3 hNB _ _ _, (by repeat' (first | (with_reducible exact hBt) | (with_reducible refine Below.alloc ?_ ?_ _) | (with_reducible refine Below.drew ?_) | (with_reducible refine below_drewN ?_ _) | (with_reducible refine Below.setCell ?_ ?_ _) | exact hBt.size | (have := hBt.size; first | omega | (simp; done) | (simp; omega))))⟩
        case rest =>
          obtain ⟨na, ad, cp, rfl, rfl, hNB, hsl, hold, hBx⟩ := hcut
          have HBc := Lib.hid (HBr.out.trans (hBx.mono HBr.out.size))
          have HB1c := Lib.hid (HB1.out.trans (hBx.mono HB1.out.size))
          have HR2c := Lib.hid (ownsRow_later HR2.out hBx)
          have HRc := Lib.hid (ownsRow_later HR.out hBx)
          have HFc := Lib.hid (HF.out.later hBx)
          have HNB := Lib.hid hNB
          have HSL := Lib.hid hsl
          have HOL := Lib.hid hold
          have hzc : w.heap.size + 1 ≤ wc.heap.size := Nat.le_trans hz hBx.size
          obtain ⟨vad, vcap, hv⟩ := ownsRow_val HRc.out
          subst hv
          clear hBx hBt x0 x1 x2 hcv hNB hsl hold
          rcases Nat.eq_zero_or_pos es.length with h0 | h0
          · go_wp2
            refine wp_loop_rounds 1 ?_
            rw [rounds_succ]
            have hI0 : ¬ (0 : Int) < (es.length : Int) := by omega
            have HNEG := Lib.hid (show Tu.placeK (es.map Fnt.key) (P, Q, T) < 0 by rw [← hit_place, h0, Tu.firstI_miss (fun i hi => absurd hi (Nat.not_lt_zero _))]; decide)
            have hcr := Below.refl wc.heap.size wc
            have HBd := Lib.hid (HBc.out.trans (hcr.mono HBc.out.size))
            have HB1d := Lib.hid (HB1c.out.trans (hcr.mono HB1c.out.size))
            have HR2d := Lib.hid (ownsRow_later HR2c.out hcr)
            have HRd := Lib.hid (ownsRow_later HRc.out hcr)
            have HFd := Lib.hid (HFc.out.later hcr)
            have HNd := Lib.hid (HNB.out.later hcr)
            have HSd := Lib.hid (HSL.out.below hcr)
            have HOd := Lib.hid (HOL.out.later hcr)
            have hzd := hzc
            have hrow2c := HR2d.out
            have hrowc := HRd.out
            have hfiec := HFd.out
            obtain ⟨n0, n1, n2⟩ := HNd.out.cells
            go_wp2_with (first
              | (at_builtin; refine wpList_append_own _ rfl _ _ 67 rfl (w.heap.size + 1) 53 j0 (.agg #[.int .i64 0, .int .i64 0, .slice none 0 0]) 3 40 Try.underlying67 ji jz0 jzs jz2 rfl (by decide) _ es.length (fnts n es) rfl (hrowc.alloc (.cells #[.int .i64 P, .int .i64 Q, .slice ad n cp] 53)) ⟨wc.heap.size, 0, none⟩ 1 1 [.int .i64 P, .int .i64 Q, .slice ad n cp] rfl rfl (three_new _ _ _ _ _) (by simp [Value.oneCell']) (by unfold maxLen; omega) (by omega) (by simp; omega) ?_; intro v' w7 hown' hgrow' hnil; have hgr := grown_trans (box1 wc (.cells #[.int .i64 P, .int .i64 Q, .slice ad n cp] 53)) hgrow'; have hrow2e := hrow2c.kept hgr (row_ne hrow2c hrowc (by decide)); have hze : w.heap.size + 1 ≤ w7.heap.size := Nat.le_trans hzd hgr.size)
              | (at_builtin; refine wpList_append_own _ rfl _ _ 40 rfl (w.heap.size + 1) 3 i0 (.int .i64 0) 1 8 Try.underlying40 hinf hz0 hzs hz2 rfl (by decide) _ pl.length _ rfl (hrow2e.alloc _) ⟨w7.heap.size, 0, none⟩ 1 1 [.int .i64 0] rfl rfl (cell_one_new _ _ _) (by simp [Value.oneCell']) (by unfold maxLen; omega) (by omega) (by simp; omega) ?_; intro v9 w9 hown9 hgrow9 hnil9))
            have hgr2 := grown_trans (box1 w7 (.cells #[.int .i64 0] 3)) hgrow9
            have HG1 := Lib.hid ((HBd.out.grown hgr (by omega) (fun j hj => by have := (hrowc.lt j hj).1; omega)).grown hgr2 (by omega) (fun j hj => by have := (hrow2e.lt j hj).1; omega))
            have HG2 := Lib.hid ((HB1d.out.grown hgr HB1d.out.size (fun j hj => by have := (hrowc.lt j hj).1; have := HZ1.out; omega)).grown hgr2 (Nat.le_trans HB1d.out.size hgr.size) (fun j hj => by have := (hrow2e.lt j hj).1; have := HZ1.out; omega))
            have HG3 := Lib.hid (hown'.kept hgr2 (row_ne hown' hrow2e (by decide)))
            have HG4 := Lib.hid ((hfiec.grown hrowc (by decide) (Nat.le_refl _) hgr).grown hrow2e (by decide) (Nat.le_refl _) hgr2)
            have hn1 := slk_grown HSd.out HOd.out hrowc (by decide) (Nat.le_refl _) hgr
            have HG6 := Lib.hid (slk_grown hn1.1 hn1.2 hrow2e (by decide) (Nat.le_refl _) hgr2)
            have hz9 : w.heap.size + 1 ≤ w9.heap.size := Nat.le_trans hze hgr2.size
            have HG5 := Lib.hid hown9
            clear hown' hgrow' hnil hgr hrow2c hrowc hfiec hgr2 hown9 hgrow9 hnil9 hrow2e hn1 n0 n1 n2
            go_roundg gg
            case measure => omega
            case rel =>
              refine ⟨i + 1, es ++ [mkFnt P Q ad cp T], pl ++ [0], by omega, by go_num, HG1.out, HG2.out, hz9, by rw [List.length_append, show fnts n (es ++ [mkFnt P Q ad cp T]) = fnts n es ++ [.int .i64 P, .int .i64 Q, .slice ad n cp] from by unfold fnts; rw [List.flatMap_append]; rfl]; exact HG3.out, ?_, by rw [List.length_append, List.map_append]; exact HG5.out, ?_⟩
              · intro e he
                rcases List.mem_append.1 he with h | h
                · exact HG4.out e h
                · obtain rfl := List.mem_singleton.1 h
                  exact HG6.out
              · refine orbF_next hO.out (by rw [HTL.out]; exact hil) ?_ (by have := hO.out.2.2; rw [List.length_append]; simp; omega)
                rw [HGV.out, HST.out]; simp only [Tu.addK]; rw [if_pos HNEG.out, List.length_map, List.map_append]; rw [h0]; rfl
          · obtain ⟨g0, cp0, hv⟩ := ownsRow_pos HRc.out h0
            injection hv with hv1 hv2 hv3
            subst hv1
            subst hv3
            have hcells : ∀ j, j < es.length → ∃ e, es[j]? = some e ∧ wc.cell? ⟨g0, j * 3, none⟩ = some (.int .i64 (e.1 : Nat)) ∧ wc.cell? ⟨g0, j * 3 + 1, none⟩ = some (.int .i64 (e.2.1 : Nat)) ∧ wc.cell? ⟨g0, j * 3 + 2, none⟩ = some (.slice e.2.2.1 n e.2.2.2.1) := fun j hj => by
              have he : es[j]? = some es[j] := List.getElem?_eq_getElem hj
              obtain ⟨q0, q1, q2⟩ := fnts_get n es j es[j] he
              have hr := HRc.out
              exact ⟨_, he, by rw [hr.cellAt _ (by omega), q0], by rw [hr.cellAt _ (by omega), q1], by rw [hr.cellAt _ (by omega), q2]⟩
            have HCE := Lib.hid hcells
            clear hcells hv2
            go_wp2
            go_loopg [11, 12] es.length (fun g2 s11 s12 wy => ∃ (j : Nat) (at' : Int), j + g2 = es.length ∧ s12 = .int .i64 j ∧ s11 = .int .i64 at' ∧ Hid (Tu.firstI (hitF es P Q T) j = at') ∧ Below wc.heap.size wc wy)
            case atStart => exact ⟨0, -1, by omega, rfl, rfl, Tu.firstI_miss (fun i hi => absurd hi (Nat.not_lt_zero _)), Below.refl _ _⟩
            case round =>
              obtain ⟨j, at', hj, rfl, rfl, hat, hBy⟩ := hrel
              have HBy := Lib.hid hBy
              cases gk with
              | zero =>
                have hjl : j = es.length := by omega
                have hltj : ¬ (j : Int) < (es.length : Int) := by omega
                have hat2 := hat.out
                rw [hjl] at hat2
                have HAT := Lib.hid hat2
                clear hat2
                have HBd := Lib.hid (HBc.out.trans (hBy.mono HBc.out.size))
                have HB1d := Lib.hid (HB1c.out.trans (hBy.mono HB1c.out.size))
                have HR2d := Lib.hid (ownsRow_later HR2c.out hBy)
                have HRd := Lib.hid (ownsRow_later HRc.out hBy)
                have HFd := Lib.hid (HFc.out.later hBy)
                have HNd := Lib.hid (HNB.out.later hBy)
                have HSd := Lib.hid (HSL.out.below hBy)
                have HOd := Lib.hid (HOL.out.later hBy)
                have hzd : w.heap.size + 1 ≤ wr.heap.size := Nat.le_trans hzc HBy.out.size
                clear hBy
                by_cases hng : at' < 0
                · have HNEG := Lib.hid (show Tu.placeK (es.map Fnt.key) (P, Q, T) < 0 by rw [← hit_place, HAT.out]; exact hng)
                  have hrow2c := HR2d.out
                  have hrowc := HRd.out
                  have hfiec := HFd.out
                  obtain ⟨n0, n1, n2⟩ := HNd.out.cells
                  go_wp2_with (first
                    | (at_builtin; refine wpList_append_own _ rfl _ _ 67 rfl (w.heap.size + 1) 53 j0 (.agg #[.int .i64 0, .int .i64 0, .slice none 0 0]) 3 40 Try.underlying67 ji jz0 jzs jz2 rfl (by decide) _ es.length (fnts n es) rfl (hrowc.alloc (.cells #[.int .i64 P, .int .i64 Q, .slice ad n cp] 53)) ⟨wr.heap.size, 0, none⟩ 1 1 [.int .i64 P, .int .i64 Q, .slice ad n cp] rfl rfl (three_new _ _ _ _ _) (by simp [Value.oneCell']) (by unfold maxLen; omega) (by omega) (by simp; omega) ?_; intro v' w7 hown' hgrow' hnil; have hgr := grown_trans (box1 wr (.cells #[.int .i64 P, .int .i64 Q, .slice ad n cp] 53)) hgrow'; have hrow2e := hrow2c.kept hgr (row_ne hrow2c hrowc (by decide)); have hze : w.heap.size + 1 ≤ w7.heap.size := Nat.le_trans hzd hgr.size)
                    | (at_builtin; refine wpList_append_own _ rfl _ _ 40 rfl (w.heap.size + 1) 3 i0 (.int .i64 0) 1 8 Try.underlying40 hinf hz0 hzs hz2 rfl (by decide) _ pl.length _ rfl (hrow2e.alloc _) ⟨w7.heap.size, 0, none⟩ 1 1 [.int .i64 (es.length : Int)] rfl rfl (cell_one_new _ _ _) (by simp [Value.oneCell']) (by unfold maxLen; omega) (by omega) (by simp; omega) ?_; intro v9 w9 hown9 hgrow9 hnil9))
                  have hgr2 := grown_trans (box1 w7 (.cells #[.int .i64 (es.length : Int)] 3)) hgrow9
                  have HG1 := Lib.hid ((HBd.out.grown hgr (by omega) (fun j hj => by have := (hrowc.lt j hj).1; omega)).grown hgr2 (by omega) (fun j hj => by have := (hrow2e.lt j hj).1; omega))
                  have HG2 := Lib.hid ((HB1d.out.grown hgr HB1d.out.size (fun j hj => by have := (hrowc.lt j hj).1; have := HZ1.out; omega)).grown hgr2 (Nat.le_trans HB1d.out.size hgr.size) (fun j hj => by have := (hrow2e.lt j hj).1; have := HZ1.out; omega))
                  have HG3 := Lib.hid (hown'.kept hgr2 (row_ne hown' hrow2e (by decide)))
                  have HG4 := Lib.hid ((hfiec.grown hrowc (by decide) (Nat.le_refl _) hgr).grown hrow2e (by decide) (Nat.le_refl _) hgr2)
                  have hn1 := slk_grown HSd.out HOd.out hrowc (by decide) (Nat.le_refl _) hgr
                  have HG6 := Lib.hid (slk_grown hn1.1 hn1.2 hrow2e (by decide) (Nat.le_refl _) hgr2)
                  have hz9 : w.heap.size + 1 ≤ w9.heap.size := Nat.le_trans hze hgr2.size
                  have HG5 := Lib.hid hown9
                  clear hown' hgrow' hnil hgr hrow2c hrowc hfiec hgr2 hown9 hgrow9 hnil9 hrow2e hn1 n0 n1 n2
                  go_roundg gg
                  case measure => omega
                  case rel =>
                    refine ⟨i + 1, es ++ [mkFnt P Q ad cp T], pl ++ [(es.length : Int)], by omega, by go_num, HG1.out, HG2.out, hz9, by rw [List.length_append, show fnts n (es ++ [mkFnt P Q ad cp T]) = fnts n es ++ [.int .i64 P, .int .i64 Q, .slice ad n cp] from by unfold fnts; rw [List.flatMap_append]; rfl]; exact HG3.out, ?_, by rw [List.length_append, List.map_append]; exact HG5.out, ?_⟩
                    · intro e he
                      rcases List.mem_append.1 he with h | h
                      · exact HG4.out e h
                      · obtain rfl := List.mem_singleton.1 h
                        exact HG6.out
                    · refine orbF_next hO.out (by rw [HTL.out]; exact hil) ?_ (by have := hO.out.2.2; rw [List.length_append]; simp; omega)
                      rw [HGV.out, HST.out]; simp only [Tu.addK]; rw [if_pos HNEG.out, List.length_map, List.map_append]; rfl
                · have hng2 : ¬ Tu.firstI (hitF es P Q T) es.length < 0 := by rw [HAT.out]; exact hng
                  have hrow2c := HR2d.out
                  have hrowc := HRd.out
                  have hfiec := HFd.out
                  go_wp2_with (at_builtin; refine wpList_append_own _ rfl _ _ 40 rfl (w.heap.size + 1) 3 i0 (.int .i64 0) 1 8 Try.underlying40 hinf hz0 hzs hz2 rfl (by decide) _ pl.length _ rfl (hrow2c.alloc _) ⟨wr.heap.size, 0, none⟩ 1 1 [.int .i64 at'] rfl rfl (cell_one_new _ _ _) (by simp [Value.oneCell']) (by unfold maxLen; omega) (by omega) (by simp; omega) ?_; intro v' w7 hown' hgrow' hnil)
                  have hgr := grown_trans (box1 wr (.cells #[.int .i64 at'] 3)) hgrow'
                  have HG1 := Lib.hid (HBd.out.grown hgr (by omega) (fun j hj => by have := (hrow2c.lt j hj).1; omega))
                  have HG2 := Lib.hid (HB1d.out.grown hgr HB1d.out.size (fun j hj => by have := (hrow2c.lt j hj).1; have := HZ1.out; omega))
                  have HG3 := Lib.hid (hrowc.kept hgr (row_ne hrowc hrow2c (by decide)))
                  have HG4 := Lib.hid (hfiec.grown hrow2c (by decide) (Nat.le_refl _) hgr)
                  have hz7 : w.heap.size + 1 ≤ w7.heap.size := Nat.le_trans hzd hgr.size
                  have HG5 := Lib.hid hown'
                  clear hown' hgrow' hnil hgr hrow2c hrowc hfiec
                  go_roundg gg
                  case measure => omega
                  case rel =>
                    refine ⟨i + 1, es, pl ++ [at'], by omega, by go_num, HG1.out, HG2.out, hz7, HG3.out, HG4.out, by rw [List.length_append, List.map_append]; exact HG5.out, ?_⟩
                    refine orbF_next hO.out (by rw [HTL.out]; exact hil) ?_ (by have := hO.out.2.2; omega)
                    rw [HGV.out, HST.out]; simp only [Tu.addK]; rw [← hit_place, HAT.out, if_neg (by omega)]
              | succ g2 =>
                have hjl : j < es.length := by omega
                have hltj : (j : Int) < (es.length : Int) := by omega
                obtain ⟨e, he, q0, q1, q2⟩ := HCE.out j hjl
                have hmem := List.mem_of_getElem? he
                have hhit := hit_at (P := P) (Q := Q) (T := T) he
                obtain ⟨hs1, -⟩ := HFc.out e hmem
                have HSE := Lib.hid (hs1.below hBy)
                have HSN := Lib.hid (HSL.out.below hBy)
                obtain ⟨eP, heP⟩ : ∃ x, e.1 = x := ⟨_, rfl⟩
                obtain ⟨eQ, heQ⟩ : ∃ x, e.2.1 = x := ⟨_, rfl⟩
                obtain ⟨ea, hea⟩ : ∃ x, e.2.2.1 = x := ⟨_, rfl⟩
                obtain ⟨ec, hec⟩ : ∃ x, e.2.2.2.1 = x := ⟨_, rfl⟩
                obtain ⟨eL, heL⟩ : ∃ x, e.2.2.2.2 = x := ⟨_, rfl⟩
                rw [heP, heQ, heL] at hhit
                rw [heP] at q0
                rw [heQ] at q1
                rw [hea, hec] at q2
                rw [hea, heL] at HSE
                have q0' := cell_later hBy q0
                have q1' := cell_later hBy q1
                have q2' := cell_later hBy q2
                obtain ⟨n0, n1, n2⟩ := (HNB.out.later hBy).cells
                have hSM := fun W2 h1 h2 => refSame_any eP eQ P Q ea ad n n ec cp eL T W2 (by omega) h1 h2
                rw [← hhit] at hSM
                have HSM := Lib.hid hSM
                have hstep := Tu.firstI_step (hitF es P Q T) j
                rw [hat.out] at hstep
                have HSTP := Lib.hid hstep
                have hBt := Below.refl wr.heap.size wr
                clear q0 q1 q2 hs1 heP heQ hea hec heL hhit hSM he hmem hstep hBy
                by_cases hng : at' < 0
                · have hm1 : at' = -1 := by
                    rcases Tu.firstI_ge (hitF es P Q T) j with h | h
                    · rw [hat.out] at h; exact h
                    · rw [hat.out] at h; omega
                  subst hm1
                  cases hb : hitF es P Q T j with
                  | true =>
                    have HBB := Lib.hid hb
                    rw [hb] at HSM
                    clear hb
                    go_wp2_with fail
                    go_region_held3 (fun w' => w'.cell? ⟨g0, j * 3, none⟩ = some (.int .i64 eP) ∧ w'.cell? ⟨g0, j * 3 + 1, none⟩ = some (.int .i64 eQ) ∧ w'.cell? ⟨g0, j * 3 + 2, none⟩ = some (.slice ea n ec) ∧ w'.cell? ⟨na, 0, none⟩ = some (.int .i64 P) ∧ w'.cell? ⟨na, 1, none⟩ = some (.int .i64 Q) ∧ w'.cell? ⟨na, 2, none⟩ = some (.slice ad n cp))
                      (first | exact ⟨q0', q1', q2', n0, n1, n2⟩ | exact ⟨cell_later (by repeat' (first | (with_reducible exact hBt) | (with_reducible refine Below.alloc ?_ ?_ _) | (with_reducible refine Below.drew ?_) | (with_reducible refine below_drewN ?_ _) | (with_reducible refine Below.setCell ?_ ?_ _) | exact hBt.size | (have := hBt.size; first | omega | (simp; done) | (simp; omega)))) q0', cell_later (by repeat' (first | (with_reducible exact hBt) | (with_reducible refine Below.alloc ?_ ?_ _) | (with_reducible refine Below.drew ?_) | (with_reducible refine below_drewN ?_ _) | (with_reducible refine Below.setCell ?_ ?_ _) | exact hBt.size | (have := hBt.size; first | omega | (simp; done) | (simp; omega)))) q1', cell_later (by repeat' (first | (with_reducible exact hBt) | (with_reducible refine Below.alloc ?_ ?_ _) | (with_reducible refine Below.drew ?_) | (with_reducible refine below_drewN ?_ _) | (with_reducible refine Below.setCell ?_ ?_ _) | exact hBt.size | (have := hBt.size; first | omega | (simp; done) | (simp; omega)))) q2', cell_later (by repeat' (first | (with_reducible exact hBt) | (with_reducible refine Below.alloc ?_ ?_ _) | (with_reducible refine Below.drew ?_) | (with_reducible refine below_drewN ?_ _) | (with_reducible refine Below.setCell ?_ ?_ _) | exact hBt.size | (have := hBt.size; first | omega | (simp; done) | (simp; omega)))) n0, cell_later (by repeat' (first | (with_reducible exact hBt) | (with_reducible refine Below.alloc ?_ ?_ _) | (with_reducible refine Below.drew ?_) | (with_reducible refine below_drewN ?_ _) | (with_reducible refine Below.setCell ?_ ?_ _) | exact hBt.size | (have := hBt.size; first | omega | (simp; done) | (simp; omega)))) n1, cell_later (by repeat' (first | (with_reducible exact hBt) | (with_reducible refine Below.alloc ?_ ?_ _) | (with_reducible refine Below.drew ?_) | (with_reducible refine below_drewN ?_ _) | (with_reducible refine Below.setCell ?_ ?_ _) | exact hBt.size | (have := hBt.size; first | omega | (simp; done) | (simp; omega)))) n2⟩)
                      (first
                        | (go_at_call 35; refine (HSM.out _ (HSE.out.below (by repeat' (first | (with_reducible exact hBt) | (with_reducible refine Below.alloc ?_ ?_ _) | (with_reducible refine Below.drew ?_) | (with_reducible refine below_drewN ?_ _) | (with_reducible refine Below.setCell ?_ ?_ _) | exact hBt.size | (have := hBt.size; first | omega | (simp; done) | (simp; omega))))) (HSN.out.below (by repeat' (first | (with_reducible exact hBt) | (with_reducible refine Below.alloc ?_ ?_ _) | (with_reducible refine Below.drew ?_) | (with_reducible refine below_drewN ?_ _) | (with_reducible refine Below.setCell ?_ ?_ _) | exact hBt.size | (have := hBt.size; first | omega | (simp; done) | (simp; omega)))))).mono ?_; rintro e w9 ⟨rfl, hb9⟩; replace hBt := bel_step (w := wr) (by repeat' (first | (with_reducible exact hBt) | (with_reducible refine Below.alloc ?_ ?_ _) | (with_reducible refine Below.drew ?_) | (with_reducible refine below_drewN ?_ _) | (with_reducible refine Below.setCell ?_ ?_ _) | exact hBt.size | (have := hBt.size; first | omega | (simp; done) | (simp; omega)))) hb9; have hsz9 := hBt.size))
                    all_goals
                      have HBU := Lib.hid (show Below wr.heap.size wr _ from (by repeat' (first | (with_reducible exact hBt) | (with_reducible refine Below.alloc ?_ ?_ _) | (with_reducible refine Below.drew ?_) | (with_reducible refine below_drewN ?_ _) | (with_reducible refine Below.setCell ?_ ?_ _) | exact hBt.size | (have := hBt.size; first | omega | (simp; done) | (simp; omega)))))
                      clear q0' q1' q2' n0 n1 n2 hBt
                      go_wp2
                      go_roundg g2
                      case measure => omega
                      case rel => exact ⟨j + 1, _, by omega, by go_num, rfl, by rw [HSTP.out, HBB.out]; rfl, bel_step HBy.out HBU.out⟩
                  | false =>
                    have HBB := Lib.hid hb
                    rw [hb] at HSM
                    clear hb
                    go_wp2_with fail
                    go_region_held3 (fun w' => w'.cell? ⟨g0, j * 3, none⟩ = some (.int .i64 eP) ∧ w'.cell? ⟨g0, j * 3 + 1, none⟩ = some (.int .i64 eQ) ∧ w'.cell? ⟨g0, j * 3 + 2, none⟩ = some (.slice ea n ec) ∧ w'.cell? ⟨na, 0, none⟩ = some (.int .i64 P) ∧ w'.cell? ⟨na, 1, none⟩ = some (.int .i64 Q) ∧ w'.cell? ⟨na, 2, none⟩ = some (.slice ad n cp))
                      (first | exact ⟨q0', q1', q2', n0, n1, n2⟩ | exact ⟨cell_later (by repeat' (first | (with_reducible exact hBt) | (with_reducible refine Below.alloc ?_ ?_ _) | (with_reducible refine Below.drew ?_) | (with_reducible refine below_drewN ?_ _) | (with_reducible refine Below.setCell ?_ ?_ _) | exact hBt.size | (have := hBt.size; first | omega | (simp; done) | (simp; omega)))) q0', cell_later (by repeat' (first | (with_reducible exact hBt) | (with_reducible refine Below.alloc ?_ ?_ _) | (with_reducible refine Below.drew ?_) | (with_reducible refine below_drewN ?_ _) | (with_reducible refine Below.setCell ?_ ?_ _) | exact hBt.size | (have := hBt.size; first | omega | (simp; done) | (simp; omega)))) q1', cell_later (by repeat' (first | (with_reducible exact hBt) | (with_reducible refine Below.alloc ?_ ?_ _) | (with_reducible refine Below.drew ?_) | (with_reducible refine below_drewN ?_ _) | (with_reducible refine Below.setCell ?_ ?_ _) | exact hBt.size | (have := hBt.size; first | omega | (simp; done) | (simp; omega)))) q2', cell_later (by repeat' (first | (with_reducible exact hBt) | (with_reducible refine Below.alloc ?_ ?_ _) | (with_reducible refine Below.drew ?_) | (with_reducible refine below_drewN ?_ _) | (with_reducible refine Below.setCell ?_ ?_ _) | exact hBt.size | (have := hBt.size; first | omega | (simp; done) | (simp; omega)))) n0, cell_later (by repeat' (first | (with_reducible exact hBt) | (with_reducible refine Below.alloc ?_ ?_ _) | (with_reducible refine Below.drew ?_) | (with_reducible refine below_drewN ?_ _) | (with_reducible refine Below.setCell ?_ ?_ _) | exact hBt.size | (have := hBt.size; first | omega | (simp; done) | (simp; omega)))) n1, cell_later (by repeat' (first | (with_reducible exact hBt) | (with_reducible refine Below.alloc ?_ ?_ _) | (with_reducible refine Below.drew ?_) | (with_reducible refine below_drewN ?_ _) | (with_reducible refine Below.setCell ?_ ?_ _) | exact hBt.size | (have := hBt.size; first | omega | (simp; done) | (simp; omega)))) n2⟩)
                      (first
                        | (go_at_call 35; refine (HSM.out _ (HSE.out.below (by repeat' (first | (with_reducible exact hBt) | (with_reducible refine Below.alloc ?_ ?_ _) | (with_reducible refine Below.drew ?_) | (with_reducible refine below_drewN ?_ _) | (with_reducible refine Below.setCell ?_ ?_ _) | exact hBt.size | (have := hBt.size; first | omega | (simp; done) | (simp; omega))))) (HSN.out.below (by repeat' (first | (with_reducible exact hBt) | (with_reducible refine Below.alloc ?_ ?_ _) | (with_reducible refine Below.drew ?_) | (with_reducible refine below_drewN ?_ _) | (with_reducible refine Below.setCell ?_ ?_ _) | exact hBt.size | (have := hBt.size; first | omega | (simp; done) | (simp; omega)))))).mono ?_; rintro e w9 ⟨rfl, hb9⟩; replace hBt := bel_step (w := wr) (by repeat' (first | (with_reducible exact hBt) | (with_reducible refine Below.alloc ?_ ?_ _) | (with_reducible refine Below.drew ?_) | (with_reducible refine below_drewN ?_ _) | (with_reducible refine Below.setCell ?_ ?_ _) | exact hBt.size | (have := hBt.size; first | omega | (simp; done) | (simp; omega)))) hb9; have hsz9 := hBt.size))
                    all_goals
                      have HBU := Lib.hid (show Below wr.heap.size wr _ from (by repeat' (first | (with_reducible exact hBt) | (with_reducible refine Below.alloc ?_ ?_ _) | (with_reducible refine Below.drew ?_) | (with_reducible refine below_drewN ?_ _) | (with_reducible refine Below.setCell ?_ ?_ _) | exact hBt.size | (have := hBt.size; first | omega | (simp; done) | (simp; omega)))))
                      clear q0' q1' q2' n0 n1 n2 hBt
                      go_wp2
                      go_roundg g2
                      case measure => omega
                      case rel => exact ⟨j + 1, _, by omega, by go_num, rfl, by rw [HSTP.out, HBB.out]; rfl, bel_step HBy.out HBU.out⟩
                · have hdn : decide (at' < 0) = false := decide_eq_false hng
                  go_wp2_with fail
                  go_quiet (fail)
                  go_wp2
                  go_roundg g2
                  case measure => omega
                  case rel => exact ⟨j + 1, _, by omega, by go_num, rfl, by rw [HSTP.out, if_neg (by omega)]; rfl, HBy.out.trans ⟨rfl, rfl, rfl, Nat.le_refl _, fun _ _ => rfl⟩⟩
end Go.Proofs.Yteonfgphihacgaa

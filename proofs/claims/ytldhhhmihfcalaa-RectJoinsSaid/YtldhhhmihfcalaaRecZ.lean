/- A matrix laid into another's numbers. Condition: it fits. -/
import Derived.Test.YtldhhhmihfcalaaRecF
import Derived.Test.YtldhhhmihfcalaaRecM
import Derived.Deep.AppendLies
namespace Go.Proofs.Ytldhhhmihfcalaa
open Go.RowKit
set_option linter.unusedVariables false

theorem splice_len {L p : List Int} {off : Nat} (h : off + p.length ≤ L.length) : (splice L off p).length = L.length := by
  unfold splice
  simp only [List.length_append, List.length_take, List.length_drop]
  omega
/-- rows, the rows O laid from x, y on: the first k of them -/
def putF (F O : Nat → List Int) (x y k : Nat) (j : Nat) : List Int := if y ≤ j ∧ j < y + k then splice (F j) x (O (j - y)) else F j
theorem putF_zero (F O : Nat → List Int) (x y : Nat) : putF F O x y 0 = F := by
  funext j
  unfold putF
  rw [if_neg (by omega)]
theorem putF_len {F O : Nat → List Int} {x y k n W m : Nat} (hF : ∀ j, j < n → (F j).length = W) (hO : ∀ j, j < k → (O j).length = m) (hx : x + m ≤ W) : ∀ j, j < n → (putF F O x y k j).length = W := by
  intro j hj
  unfold putF
  split
  · rename_i h
    rw [splice_len (by rw [hF j hj, hO _ (by omega)]; exact hx), hF j hj]
  · exact hF j hj
theorem put_row {F O : Nat → List Int} {x y k n W m : Nat} (hF : ∀ j, j < n → (F j).length = W) (hO : ∀ j, j < k + 1 → (O j).length = m) (hx : x + m ≤ W) (hy : y + k < n) :
    splice (Rc.rowsOf (putF F O x y k) n) ((y + k) * W + x) (O k) = Rc.rowsOf (putF F O x y (k + 1)) n := by
  rw [Rc.splice_rowsOf hy (putF_len hF (fun j hj => hO j (by omega)) hx) (by rw [hO k (by omega)]; exact hx)]
  refine Rc.rowsOf_congr fun j hj => ?_
  by_cases e : j = y + k
  · subst e
    rw [if_pos rfl]
    unfold putF
    rw [if_neg (by omega), if_pos (by omega), Nat.add_sub_cancel_left]
  · rw [if_neg e]
    unfold putF
    by_cases h : y ≤ j ∧ j < y + k
    · rw [if_pos h, if_pos (by omega)]
    · rw [if_neg h, if_neg (by omega)]
theorem gb_below {w a b : World} {r : Option Nat} (h : w.grownBy a r) (k : Below a.heap.size a b) : w.grownBy b r :=
  ⟨k.os.trans h.os, k.tape.trans h.tape, k.output.trans h.output, Nat.le_trans h.size k.size, fun i hi hne => (k.block i (Nat.lt_of_lt_of_le hi h.size)).trans (h.block i hi hne)⟩
theorem gb_drew {w a : World} {r : Option Nat} (h : w.grownBy a r) : w.grownBy a.drew r := ⟨h.os, h.tape, h.output, h.size, h.block⟩
theorem Pc.row {w : World} {b : Nat} {t : TypeId} {x y : Int} (h : Pc w b t x y) {g : Nat} (cs : Array Value) (hne : b ≠ g) : Pc (w.setRow g cs) b t x y := (setRow_other w g b cs hne).trans h
theorem gb_row {w a : World} {g : Nat} (h : w.grownBy a (some g)) (cs : Array Value) : w.grownBy (a.setRow g cs) (some g) := by
  refine ⟨h.os, h.tape, h.output, ?_, fun i hi hne => ?_⟩
  · have := h.size
    simpa using this
  · rw [setRow_other a g i cs (fun e => hne (by rw [e]))]
    exact h.block i hi hne
set_option maxRecDepth 100000 in
set_option maxHeartbeats 4000000 in
theorem put_any (W H p q x y : Int) (g n b off no co : Nat) (F : Nat → List Int) (Lo : List Int) (hM : Rc.Ok W H (Rc.rowsOf F H.toNat)) (hF : ∀ j, j < H.toNat → (F j).length = W.toNat) (hn : (Rc.rowsOf F H.toNat).length = n) (hO : Rc.Ok p q Lo) (hno : Lo.length = no) (hco : no ≤ co) (hco2 : co ≤ 9223372036854775807)
    (hx : Rc.insV x p W = true) (hy : Rc.insV y q H = true) (w : World) (hg : OwnG 0 w g (Rc.rowsOf F H.toNat)) (hs : ∀ i, i < no → w.cell? ⟨b, off + i, none⟩ = some (.int .u64 (Lo.getD i 0))) (hb : b < w.heap.size) (hne : b ≠ g) :
    Calls Try.prog 97 #[.agg #[.int .i64 W, .int .i64 H, .slice (some ⟨g, 0, none⟩) n n], .agg #[.int .i64 p, .int .i64 q, .slice (some ⟨b, off, none⟩) no co], .agg #[.int .i64 x, .int .i64 y]] w fun e w' =>
      e = .returned (.tuple #[]) ∧ OwnG 0 w' g (Rc.rowsOf (putF F (fun k => Rc.cutL Lo p 0 k p) x.toNat y.toNat q.toNat) H.toNat) ∧ w.grownBy w' (some g) := by
  have hn2 := ok_len hM
  have hno2 := ok_len hO
  rw [hn] at hn2
  rw [hno] at hno2
  have hHH := hM.2.2.2.1
  obtain ⟨a1, a2, a3, a4⟩ := Rc.insV_iff.1 hx
  obtain ⟨b1, b2, b3, b4⟩ := Rc.insV_iff.1 hy
  have hgl := hg.lt
  have hD : Sb (((w.alloc (.cells #[.int .i64 W, .int .i64 H, .slice (some ⟨g, 0, none⟩) n n] 27)).alloc (.cells #[.int .i64 p, .int .i64 q, .slice (some ⟨b, off, none⟩) no co] 27)).alloc (.cells #[.int .i64 x, .int .i64 y] 101)) w.heap.size 27 (.int .i64 W) (.int .i64 H) (.slice (some ⟨g, 0, none⟩) n n) := ((Sb.new _ _ _ _ _).alloc _).alloc _
  have hE : Sb (((w.alloc (.cells #[.int .i64 W, .int .i64 H, .slice (some ⟨g, 0, none⟩) n n] 27)).alloc (.cells #[.int .i64 p, .int .i64 q, .slice (some ⟨b, off, none⟩) no co] 27)).alloc (.cells #[.int .i64 x, .int .i64 y] 101)) (w.heap.size + 1) 27 (.int .i64 p) (.int .i64 q) (.slice (some ⟨b, off, none⟩) no co) := Sb.alloc (by simpa using Sb.new (w.alloc (.cells #[.int .i64 W, .int .i64 H, .slice (some ⟨g, 0, none⟩) n n] 27)) 27 (.int .i64 p) (.int .i64 q) (.slice (some ⟨b, off, none⟩) no co)) _
  have hP : Pc (((w.alloc (.cells #[.int .i64 W, .int .i64 H, .slice (some ⟨g, 0, none⟩) n n] 27)).alloc (.cells #[.int .i64 p, .int .i64 q, .slice (some ⟨b, off, none⟩) no co] 27)).alloc (.cells #[.int .i64 x, .int .i64 y] 101)) (w.heap.size + 1 + 1) 101 x y := by
    have := heapNew ((w.alloc (.cells #[.int .i64 W, .int .i64 H, .slice (some ⟨g, 0, none⟩) n n] 27)).alloc (.cells #[.int .i64 p, .int .i64 q, .slice (some ⟨b, off, none⟩) no co] 27)) (.cells #[.int .i64 x, .int .i64 y] 101)
    simp only [World.size_alloc] at this
    exact this
  have hB : Below w.heap.size w (((w.alloc (.cells #[.int .i64 W, .int .i64 H, .slice (some ⟨g, 0, none⟩) n n] 27)).alloc (.cells #[.int .i64 p, .int .i64 q, .slice (some ⟨b, off, none⟩) no co] 27)).alloc (.cells #[.int .i64 x, .int .i64 y] 101)) := by go_grown
  have HD := Lib.hid hD; have HE := Lib.hid hE; have HP := Lib.hid hP; have HB := Lib.hid hB
  have HGB := Lib.hid (gb_below (World.grownBy.refl w (some g)) hB)
  have HG := Lib.hid (hg.later hB)
  have HM := Lib.hid hM; have HF := Lib.hid hF; have HN := Lib.hid hn; have HO := Lib.hid hO; have HNO := Lib.hid hno
  have HX := Lib.hid hx; have HY := Lib.hid hy; have HS := Lib.hid hs; have HNE := Lib.hid hne; have HBL := Lib.hid hb
  have hcl : ∀ k, k < q.toNat → (Rc.cutL Lo p 0 (k : Int) p).length = p.toNat := fun k hk => Rc.cutL_length hO.2.2.2.2.2 (by rw [Rc.insV_iff]; omega) (by rw [Rc.insV_iff]; omega)
  have HCL := Lib.hid hcl
  clear hD hE hP hB hM hF hn hO hno hx hy hs hg hcl hne hb
  obtain ⟨O, hOO⟩ : ∃ O : Nat → List Int, (fun k : Nat => Rc.cutL Lo p 0 k p) = O := ⟨_, rfl⟩
  rw [hOO]
  have HOO := Lib.hid hOO
  clear hOO
  go_enter Try.func97, Try.ntmps97
  go_wp2
  obtain ⟨W0, hW0⟩ : ∃ W0, (((w.alloc (.cells #[.int .i64 W, .int .i64 H, .slice (some ⟨g, 0, none⟩) n n] 27)).alloc (.cells #[.int .i64 p, .int .i64 q, .slice (some ⟨b, off, none⟩) no co] 27)).alloc (.cells #[.int .i64 x, .int .i64 y] 101)) = W0 := ⟨_, rfl⟩
  have hsz : W0.heap.size = w.heap.size + 3 := by rw [← hW0]; simp
  rw [hW0] at HD HE HP HB HGB HG ⊢
  clear hW0
  go_loopw [9] (fun i wr => ∃ k : Nat, k ≤ q.toNat ∧ i = .int .i64 k ∧ w.grownBy wr (some g) ∧ w.heap.size + 3 ≤ wr.heap.size ∧ Sb wr w.heap.size 27 (.int .i64 W) (.int .i64 H) (.slice (some ⟨g, 0, none⟩) n n) ∧ Sb wr (w.heap.size + 1) 27 (.int .i64 p) (.int .i64 q) (.slice (some ⟨b, off, none⟩) no co) ∧ Pc wr (w.heap.size + 1 + 1) 101 x y ∧ OwnG 0 wr g (Rc.rowsOf (putF F O x.toNat y.toNat k) H.toNat)) (fun i _ => q.toNat - (intOf i).toNat)
  case atStart => exact ⟨0, Nat.zero_le _, rfl, HGB.out, by omega, HD.out, HE.out, HP.out, by rw [putF_zero]; exact HG.out⟩
  case round =>
    obtain ⟨k, hk, rfl, GB, hz, D, E, P2, G⟩ := hrel
    by_cases hlt : k < q.toNat
    · have hq : (k : Int) < q := by omega
      have hyk : Rc.insV (y + k) 1 H = true := by rw [Rc.insV_iff]; omega
      obtain ⟨p1, p2, p3, p4⟩ := place HM.out HX.out hyk
      rw [HN.out] at p3 p4
      obtain ⟨r1, r2, r3, r4⟩ := place (x := 0) (y := (k : Int)) (n := p) HO.out (by rw [Rc.insV_iff]; omega) (by rw [Rc.insV_iff]; omega)
      rw [HNO.out] at r3 r4
      simp only [Int.toNat_natCast] at r2 r4
      have hCut := Lib.hid (fun W2 => cut_any W H x (y + k) p g 0 n n _ p.toNat (by have := HM.out.1; omega) a1 (by omega) p1 (by omega) (by omega) p3 (Nat.le_refl _) (by omega) W2)
      have hRow := Lib.hid (fun W2 => row_any p q k b off no co _ p.toNat (by omega) (by omega) r2 (by omega) r4 hco hco2 W2)
      have hsrc := Lib.hid (cut_src (L := Lo) (fun i hi => HS.out i (by rw [HNO.out] at hi; exact hi)) (p := k * p.toNat) (m := p.toNat) (by rw [HNO.out]; exact r4))
      have hOk : Hid (O k = (Lo.drop (k * p.toNat)).take p.toNat) := by show O k = _; rw [← HOO.out]; simp [Rc.cutL]
      have hlen := Lib.hid (show ((O k).map (Value.int .u64)).length = p.toNat by rw [List.length_map, ← HOO.out]; exact HCL.out k hlt)
      rw [← hOk.out] at hsrc
      have htn : (y + k).toNat = y.toNat + k := by omega
      rw [htn] at hCut p3
      have hpr := put_row (F := F) (O := O) (x := x.toNat) (y := y.toNat) (k := k) (n := H.toNat) (W := W.toNat) (m := p.toNat) HF.out (fun j hj => by rw [← HOO.out]; exact HCL.out j (by omega)) (by omega) (by omega)
      have hFIT := Lib.hid (show (y.toNat + k) * W.toNat + x.toNat + p.toNat ≤ (Rc.rowsOf (putF F O x.toNat y.toNat k) H.toNat).length by rw [Rc.rowsOf_length (putF_len HF.out (fun j hj => by rw [← HOO.out]; exact HCL.out j (by omega)) (m := p.toNat) (by omega)), ← Rc.rowsOf_length HF.out, HN.out]; exact p3)
      have HPR := Lib.hid hpr
      generalize (y.toNat + k) * W.toNat + x.toNat = pc at hCut HPR hFIT p3
      generalize k * p.toNat = pr at hRow hsrc
      rw [Nat.zero_add] at hCut
      obtain ⟨cz, hcz⟩ : ∃ cz, O k = cz := ⟨_, rfl⟩
      rw [hcz] at hsrc hlen HPR
      have hyk2 : wrap64 (y + k) = y + k := by rw [IntWalk.wrap64_in] <;> omega
      have hyk3 : IntKind.i64.wrap (y + k) = y + k := by rw [IntWalk.i64_in] <;> omega
      clear hpr hyk p1 p2 p3 p4 r1 r2 r3 r4 hOk hcz htn
      obtain ⟨d0, d1, d2⟩ := D.cells
      obtain ⟨e0, e1, e2⟩ := E.cells
      obtain ⟨f0, f1⟩ := P2.cells
      go_wp2
      replace G := G.drew
      replace D := D.drew
      replace E := E.drew
      replace P2 : Pc wr.drew (w.heap.size + 1 + 1) 101 x y := P2
      replace GB := gb_drew GB
      go_region_held3 (fun w' => w'.cell? ⟨w.heap.size, 0, none⟩ = some (.int .i64 W) ∧ w'.cell? ⟨w.heap.size, 1, none⟩ = some (.int .i64 H) ∧ w'.cell? ⟨w.heap.size, 2, none⟩ = some (.slice (some ⟨g, 0, none⟩) n n) ∧ w'.cell? ⟨w.heap.size + 1, 0, none⟩ = some (.int .i64 p) ∧ w'.cell? ⟨w.heap.size + 1, 1, none⟩ = some (.int .i64 q) ∧ w'.cell? ⟨w.heap.size + 1, 2, none⟩ = some (.slice (some ⟨b, off, none⟩) no co) ∧ w'.cell? ⟨w.heap.size + 1 + 1, 0, none⟩ = some (.int .i64 x) ∧ w'.cell? ⟨w.heap.size + 1 + 1, 1, none⟩ = some (.int .i64 y))
        (first | exact ⟨d0, d1, d2, e0, e1, e2, f0, f1⟩ | exact ⟨D.cells.1, D.cells.2.1, D.cells.2.2, E.cells.1, E.cells.2.1, E.cells.2.2, P2.cells.1, P2.cells.2⟩ | exact ⟨(D.row (g := g) _ (by omega)).cells.1, (D.row (g := g) _ (by omega)).cells.2.1, (D.row (g := g) _ (by omega)).cells.2.2, (E.row (g := g) _ (by omega)).cells.1, (E.row (g := g) _ (by omega)).cells.2.1, (E.row (g := g) _ (by omega)).cells.2.2, (P2.row (g := g) _ (by omega)).cells.1, (P2.row (g := g) _ (by omega)).cells.2⟩)
        (first
          | (go_at_call 101; refine (hRow.out _).mono ?_; rintro e w9 ⟨rfl, hb9⟩; replace G := G.later hb9; replace D := D.later hb9; replace E := E.later hb9; replace P2 := P2.below hb9 P2.lt; replace GB := gb_below GB hb9; replace hz := Nat.le_trans hz hb9.size)
          | (go_at_call 100; refine (hCut.out _).mono ?_; rintro e w9 ⟨rfl, hb9⟩; replace G := G.later hb9; replace D := D.later hb9; replace E := E.later hb9; replace P2 := P2.below hb9 P2.lt; replace GB := gb_below GB hb9; replace hz := Nat.le_trans hz hb9.size)
          | (refine step_copy_row rfl (.tmp 21) (.tmp 24) 22 22 rfl 88 Try.underlying22 Try.size_px g pc p.toNat p.toNat ⟨b, off + pr, none⟩ p.toNat p.toNat (by simp [Act.eval]) (by simp [Act.eval]) _ _ G.2 (cz.map (Value.int .u64)) (by rw [hlen.out]; simp) (fun j v hv => by rw [GB.cell_far _ (by rw [addrK_add]; exact HBL.out) (by rw [addrK_add]; intro e; injection e with e; exact HNE.out e)]; exact hsrc.out j v hv) ?_ (one_px _) ?_; (rw [hlen.out, List.length_map]; exact hFIT.out); intro v9; have GX := ownG_row G pc cz))
      go_wp2
      go_roundw
      case rel => exact ⟨k + 1, by omega, by go_num, gb_row GB _, by simpa using hz, D.row _ (by omega), E.row _ (by omega), P2.row _ (by omega), by rw [← HPR.out]; exact GX⟩
      case measure => simp [intOf]; omega
    · have hq : ¬ (k : Int) < q := by omega
      obtain rfl : k = q.toNat := by omega
      obtain ⟨e0, e1, e2⟩ := E.cells
      go_wp2
      go_end0
      exact ⟨rfl, G, GB⟩
end Go.Proofs.Ytldhhhmihfcalaa

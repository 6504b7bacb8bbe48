/- Where a matrix stands in another one, by the program's own search. Condition: the places lie within. -/
import Derived.Test.YtooilemglmndeaaGreatZgAA
import Derived.Deep.LoopGhost
namespace Go.Proofs.YtooilemglmndeaaGreat
open Go.RowKit
set_option linter.unusedVariables false

/-- places as cells, two a place -/
def pairs (F : List (Int × Int)) : List Value := F.flatMap fun p => [.int .i64 p.1, .int .i64 p.2]
theorem pairs_append (F G : List (Int × Int)) : pairs (F ++ G) = pairs F ++ pairs G := by simp [pairs]
theorem pairs_one (x y : Int) : pairs [(x, y)] = [.int .i64 x, .int .i64 y] := rfl
theorem pair_new (w : World) (t : TypeId) (x y : Int) : ∀ j u, [Value.int .i64 x, .int .i64 y][j]? = some u → (w.alloc (.cells #[.int .i64 x, .int .i64 y] t)).cell? ((⟨w.heap.size, 0, none⟩ : Addr).add j) = some u := by
  intro j u hu
  rw [addrK_add, Nat.zero_add]
  rw [World.cell?_alloc_at _ _ _ _ rfl]
  simpa using hu
theorem one_pair (x y : Int) : ∀ u ∈ [Value.int .i64 x, .int .i64 y], u.oneCell' = true := by
  intro u hu; simp at hu; rcases hu with rfl | rfl <;> rfl
/-- two cells in a block of the call's own -/
def Pc (w : World) (b : Nat) (t : TypeId) (x y : Int) : Prop := w.heap[b]? = some (.cells #[.int .i64 x, .int .i64 y] t (0, 0))
theorem Pc.cells {w : World} {b : Nat} {t : TypeId} {x y : Int} (h : Pc w b t x y) : w.cell? ⟨b, 0, none⟩ = some (.int .i64 x) ∧ w.cell? ⟨b, 1, none⟩ = some (.int .i64 y) := by
  have h' : w.heap[b]? = _ := h
  refine ⟨?_, ?_⟩ <;> simp [World.cell?, h']
theorem Sb.below {w w' : World} {b B : Nat} {t : TypeId} {u v x : Value} (h : Sb w b t u v x) (hb : Below B w w') (hlt : b < B) : Sb w' b t u v x := (hb.block b hlt).trans h
theorem Pc.below {w w' : World} {b B : Nat} {t : TypeId} {x y : Int} (h : Pc w b t x y) (hb : Below B w w') (hlt : b < B) : Pc w' b t x y := (hb.block b hlt).trans h
theorem slk_cut {w : World} {b off p m : Nat} {L : List Int} (h : ∀ i, i < L.length → w.cell? ⟨b, off + i, none⟩ = some (.int .u64 (L.getD i 0))) (hp : p + m ≤ L.length) : SlK .u64 w (some ⟨b, off + p, none⟩) m ((L.drop p).take m) := by
  refine ⟨by rw [List.length_take, List.length_drop]; omega, .inr ⟨b, off + p, rfl, fun i hi => ?_⟩⟩
  rw [Nat.add_assoc, h (p + i) (by omega), List.getD_eq_getElem?_getD, List.getD_eq_getElem?_getD, List.getElem?_take_of_lt hi, List.getElem?_drop]
/-- what stands through all rounds of a search -/
structure SF (w wr : World) (t s : TypeId) (u1 v1 x1 u2 v2 x2 : Value) (fx fy lx ly : Int) : Prop where
  bel : Below w.heap.size w wr
  m : Sb wr w.heap.size t u1 v1 x1
  o : Sb wr (w.heap.size + 1) t u2 v2 x2
  lo : Pc wr (w.heap.size + 1 + 1) s fx fy
  hi : Pc wr (w.heap.size + 1 + 1 + 1) s lx ly
  size : w.heap.size + 4 ≤ wr.heap.size
theorem SF.later {w wr w' : World} {t s : TypeId} {u1 v1 x1 u2 v2 x2 : Value} {fx fy lx ly : Int} (h : SF w wr t s u1 v1 x1 u2 v2 x2 fx fy lx ly) (hb : Below (w.heap.size + 4) wr w') : SF w w' t s u1 v1 x1 u2 v2 x2 fx fy lx ly :=
  ⟨h.bel.trans (hb.mono (by omega)), h.m.below hb (by omega), h.o.below hb (by omega), h.lo.below hb (by omega), h.hi.below hb (by omega), Nat.le_trans h.size hb.size⟩
theorem Tryz.info_pair : (Tryz.prog.info? 73).map (fun i => (i.zero, i.size, i.bytes)) = some (some (.agg #[.int .i64 0, .int .i64 0]), 2, 16) := by kernel_rfl
theorem flat_succ {α : Type} (f : Nat → List α) (n : Nat) : (List.range (n + 1)).flatMap f = (List.range n).flatMap f ++ f n := by rw [List.range_succ, List.flatMap_append]; simp
/-- how many places at most -/
theorem flat_le {n : Nat} {f : Nat → List (Int × Int)} {m : Nat} (h : ∀ k, (f k).length ≤ m) : ((List.range n).flatMap f).length ≤ n * m := by
  induction n with
  | zero => simp
  | succ n ih => rw [flat_succ, List.length_append, Nat.succ_mul]; have := h n; omega
/-- row j of a search, its first i places -/
def sRow (L : List Int) (W w h : Int) (M : List Int) (fx fy : Int) (j i : Nat) : List (Int × Int) :=
  (List.range i).flatMap fun (i : Nat) => if Rc.eqAt L W w h M (fx + i) (fy + j) = true then [(fx + i, fy + j)] else []
theorem sRow_le (L : List Int) (W w h : Int) (M : List Int) (fx fy : Int) (j i : Nat) : (sRow L W w h M fx fy j i).length ≤ i := by
  have := flat_le (n := i) (f := fun (i : Nat) => if Rc.eqAt L W w h M (fx + i) (fy + j) = true then [(fx + i, fy + j)] else []) (m := 1) (fun k => by split <;> simp)
  simpa [sRow] using this
theorem sRow_yes {L : List Int} {W w h : Int} {M : List Int} {fx fy : Int} {j i : Nat} (e : Rc.eqAt L W w h M (fx + i) (fy + j) = true) : sRow L W w h M fx fy j (i + 1) = sRow L W w h M fx fy j i ++ [(fx + i, fy + j)] := by
  unfold sRow; rw [flat_succ]; simp [e]
theorem sRow_no {L : List Int} {W w h : Int} {M : List Int} {fx fy : Int} {j i : Nat} (e : Rc.eqAt L W w h M (fx + i) (fy + j) = false) : sRow L W w h M fx fy j (i + 1) = sRow L W w h M fx fy j i := by
  unfold sRow; rw [flat_succ]; simp [e]
def sRows (L : List Int) (W w h : Int) (M : List Int) (fx fy : Int) (nx j : Nat) : List (Int × Int) := (List.range j).flatMap fun j => sRow L W w h M fx fy j nx
theorem sRows_eq (L : List Int) (W w h : Int) (M : List Int) (fx fy : Int) (nx ny : Nat) : Rc.searchV L W w h M fx fy nx ny = sRows L W w h M fx fy nx ny := rfl
theorem sRows_le (L : List Int) (W w h : Int) (M : List Int) (fx fy : Int) (nx j : Nat) : (sRows L W w h M fx fy nx j).length ≤ j * nx := flat_le (fun k => sRow_le ..)

theorem ownsRow_later {w w' : World} {base size n : Nat} {e : TypeId} {v : Value} {xs : List Value} (h : w.ownsRow base e size v n xs) (hb : Below w.heap.size w w') : w'.ownsRow base e size v n xs := by
  obtain ⟨h1, h2⟩ := h
  refine ⟨h1, ?_⟩
  rcases h2 with h2 | ⟨g, cap, cur, rfl, hbs, hg, r⟩
  · exact .inl h2
  · exact .inr ⟨g, cap, cur, rfl, hbs, (hb.block g (Array.getElem?_eq_some_iff.1 hg).1).trans hg, r⟩
set_option maxRecDepth 100000 in
set_option maxHeartbeats 8000000 in
theorem search_any (W H w0 h0 fx fy lx ly : Int) (b off c b2 off2 c2 nx ny : Nat) (L M : List Int) (hL : Rc.Ok W H L) (hM : Rc.Ok w0 h0 M) (hc : L.length ≤ c) (hcm : c ≤ 9223372036854775807) (hd : M.length ≤ c2) (hdm : c2 ≤ 9223372036854775807)
    (hfx : 0 ≤ fx ∧ fx ≤ 4096) (hfy : 0 ≤ fy ∧ fy ≤ 65536) (hnx : lx + 1 = fx + nx ∨ (nx = 0 ∧ lx < fx)) (hny : ly + 1 = fy + ny ∨ (ny = 0 ∧ ly < fy)) (hX : ∀ i, i < nx → Rc.insV (fx + (i : Int)) w0 W = true) (hY : ∀ j, j < ny → Rc.insV (fy + (j : Int)) h0 H = true) (w : World)
    (hs : ∀ i, i < L.length → w.cell? ⟨b, off + i, none⟩ = some (.int .u64 (L.getD i 0))) (hs2 : ∀ i, i < M.length → w.cell? ⟨b2, off2 + i, none⟩ = some (.int .u64 (M.getD i 0))) :
    Calls Tryz.prog 128 #[.agg #[.int .i64 W, .int .i64 H, .slice (some ⟨b, off, none⟩) L.length c], .agg #[.int .i64 w0, .int .i64 h0, .slice (some ⟨b2, off2, none⟩) M.length c2], .agg #[.int .i64 fx, .int .i64 fy], .agg #[.int .i64 lx, .int .i64 ly]] w fun e w' =>
      ∃ v, e = .returned v ∧ w'.ownsRow w.heap.size 73 2 v (Rc.searchV L W w0 h0 M fx fy nx ny).length (pairs (Rc.searchV L W w0 h0 M fx fy nx ny)) ∧ Below w.heap.size w w' := by
  obtain ⟨n1, hn1⟩ : ∃ n, L.length = n := ⟨_, rfl⟩
  obtain ⟨n2, hn2⟩ : ∃ n, M.length = n := ⟨_, rfl⟩
  have hW := hL.2.1
  have hH := hL.2.2.2.1
  have hh1 := hM.2.2.1
  have hh2 := hM.2.2.2.1
  have hw1 := hM.1
  have hw2 := hM.2.1
  have hlen := ok_len hL
  have hlen2 := ok_len hM
  have HXX := Lib.hid hX
  have HYY := Lib.hid hY
  have HL := Lib.hid hL
  have HM := Lib.hid hM
  have HS := Lib.hid hs
  have HS2 := Lib.hid hs2
  obtain ⟨x0, x1⟩ := hfx
  obtain ⟨y0, y1⟩ := hfy
  have nx1 : nx ≤ 4096 := by
    rcases Nat.eq_zero_or_pos nx with h | h
    · omega
    · obtain ⟨_, _, _, h4⟩ := Rc.insV_iff.1 (hX (nx - 1) (by omega)); omega
  have ny1 : ny ≤ 65536 := by
    rcases Nat.eq_zero_or_pos ny with h | h
    · omega
    · obtain ⟨_, _, _, h4⟩ := Rc.insV_iff.1 (hY (ny - 1) (by omega)); omega
  rw [sRows_eq]
  obtain ⟨i0, hi, hz0, hz1, hz2⟩ := info_parts Tryz.info_pair
  rw [hn1] at hc ⊢
  rw [hn2] at hd ⊢
  have HN1 := Lib.hid hn1
  have HN2 := Lib.hid hn2
  clear hX hY hL hM hs hs2 hn1 hn2
  go_enter Tryz.func128, Tryz.ntmps128
  have hSF : SF w (((((w.alloc (.cells #[.int .i64 W, .int .i64 H, .slice (some ⟨b, off, none⟩) n1 c] 44)).alloc (.cells #[.int .i64 w0, .int .i64 h0, .slice (some ⟨b2, off2, none⟩) n2 c2] 44)).alloc (.cells #[.int .i64 fx, .int .i64 fy] 73)).alloc (.cells #[.int .i64 lx, .int .i64 ly] 73))) 44 73 (.int .i64 W) (.int .i64 H) (.slice (some ⟨b, off, none⟩) n1 c) (.int .i64 w0) (.int .i64 h0) (.slice (some ⟨b2, off2, none⟩) n2 c2) fx fy lx ly := by
    refine ⟨by go_grown, heapOld _ _ (heapOld _ _ (heapOld _ _ (heapNew _ _))), heapOld _ _ (heapOld _ _ ?_), heapOld _ _ ?_, ?_, by simp⟩
    · have := heapNew (w.alloc (.cells #[.int .i64 W, .int .i64 H, .slice (some ⟨b, off, none⟩) n1 c] 44)) (.cells #[.int .i64 w0, .int .i64 h0, .slice (some ⟨b2, off2, none⟩) n2 c2] 44)
      simp only [World.size_alloc] at this
      exact this
    · have := heapNew ((w.alloc (.cells #[.int .i64 W, .int .i64 H, .slice (some ⟨b, off, none⟩) n1 c] 44)).alloc (.cells #[.int .i64 w0, .int .i64 h0, .slice (some ⟨b2, off2, none⟩) n2 c2] 44)) (.cells #[.int .i64 fx, .int .i64 fy] 73)
      simp only [World.size_alloc] at this
      exact this
    · have := heapNew (((w.alloc (.cells #[.int .i64 W, .int .i64 H, .slice (some ⟨b, off, none⟩) n1 c] 44)).alloc (.cells #[.int .i64 w0, .int .i64 h0, .slice (some ⟨b2, off2, none⟩) n2 c2] 44)).alloc (.cells #[.int .i64 fx, .int .i64 fy] 73)) (.cells #[.int .i64 lx, .int .i64 ly] 73)
      simp only [World.size_alloc] at this
      exact this
  have HSF := Lib.hid hSF
  clear hSF
  go_wp2
  go_loopg [9, 10] ny (fun g s9 s10 wr => ∃ j : Nat, j + g = ny ∧ s10 = .int .i64 (fy + j) ∧ SF w wr 44 73 (.int .i64 W) (.int .i64 H) (.slice (some ⟨b, off, none⟩) n1 c) (.int .i64 w0) (.int .i64 h0) (.slice (some ⟨b2, off2, none⟩) n2 c2) fx fy lx ly ∧ wr.ownsRow (w.heap.size + 4) 73 2 s9 (sRows L W w0 h0 M fx fy nx j).length (pairs (sRows L W w0 h0 M fx fy nx j)))
  case atStart => exact ⟨0, by omega, by simp, HSF.out, World.ownsRow_nil _ _ _ _⟩
  case round =>
    obtain ⟨j, hj, rfl, hF, hrow⟩ := hrel
    obtain ⟨Y, hYe⟩ : ∃ Y, fy + (j : Int) = Y := ⟨_, rfl⟩
    rw [hYe]
    obtain ⟨q0, q1⟩ := hF.hi.cells
    obtain ⟨p0, p1⟩ := hF.lo.cells
    cases gk with
    | zero =>
      have hend : ¬ Y ≤ ly := by omega
      obtain rfl : j = ny := by omega
      go_wp2
      go_ret
      exact ⟨_, rfl, ownsRow_base hrow (by omega), hF.bel⟩
    | succ g =>
      have hend : Y ≤ ly := by omega
      go_wp2
      go_step3
      go_wp2
      go_step3
      go_wp2
      have HJ := Lib.hid hj
      have HY := Lib.hid (HYY.out j (by omega))
      rw [hYe] at HY
      have HYE := Lib.hid hYe
      have hYb : 0 ≤ Y ∧ Y ≤ 65536 := by obtain ⟨k1, k2, k3, k4⟩ := Rc.insV_iff.1 HY.out; omega
      obtain ⟨Y0, Y1⟩ := hYb
      have HF1 := Lib.hid hF
      have HR1 := Lib.hid hrow
      clear hj hYe hF hrow q0 q1 p0 p1 hend
      go_loopg [9, 11] nx (fun g2 s9 s11 wx => ∃ i : Nat, i + g2 = nx ∧ s11 = .int .i64 (fx + i) ∧ SF w wx 44 73 (.int .i64 W) (.int .i64 H) (.slice (some ⟨b, off, none⟩) n1 c) (.int .i64 w0) (.int .i64 h0) (.slice (some ⟨b2, off2, none⟩) n2 c2) fx fy lx ly ∧ wx.ownsRow (w.heap.size + 4) 73 2 s9 (sRows L W w0 h0 M fx fy nx j ++ sRow L W w0 h0 M fx fy j i).length (pairs (sRows L W w0 h0 M fx fy nx j ++ sRow L W w0 h0 M fx fy j i)))
      case atStart => exact ⟨0, by omega, by simp, HF1.out, by simpa [sRow] using HR1.out⟩
      case round =>
        obtain ⟨i, hi2, rfl, hF, hrow⟩ := hrel
        obtain ⟨X, hXe⟩ : ∃ X, fx + (i : Int) = X := ⟨_, rfl⟩
        rw [hXe]
        obtain ⟨q0, q1⟩ := hF.hi.cells
        obtain ⟨p0, p1⟩ := hF.lo.cells
        obtain ⟨m0, m1, m2⟩ := hF.m.cells
        obtain ⟨o0, o1, o2⟩ := hF.o.cells
        cases gk with
        | zero =>
          have hend : ¬ X ≤ lx := by omega
          obtain rfl : i = nx := by omega
          have hwY : wrap64 (Y + 1) = Y + 1 := by rw [IntWalk.wrap64_in] <;> omega
          go_wp2
          go_roundg g
          case measure => omega
          case rel => exact ⟨j + 1, by have := HJ.out; omega, by rw [← HYE.out]; simp; omega, hF, by rw [show sRows L W w0 h0 M fx fy i (j + 1) = sRows L W w0 h0 M fx fy i j ++ sRow L W w0 h0 M fx fy j i from flat_succ _ _]; exact hrow⟩
        | succ g2 =>
          have hend : X ≤ lx := by omega
          go_wp2
          have HI := Lib.hid hi2
          have HX := Lib.hid (HXX.out i (by omega))
          rw [hXe] at HX
          have HXE := Lib.hid hXe
          have hXb : 0 ≤ X ∧ X ≤ 4096 := by obtain ⟨k1, k2, k3, k4⟩ := Rc.insV_iff.1 HX.out; omega
          obtain ⟨X0, X1⟩ := hXb
          have HF2 := Lib.hid hF
          have HR2 := Lib.hid hrow
          have hwX : wrap64 (X + 1) = X + 1 := by rw [IntWalk.wrap64_in] <;> omega
          have HLE := Lib.hid (show (sRows L W w0 h0 M fx fy nx j ++ sRow L W w0 h0 M fx fy j i).length ≤ 268439552 by
            rw [List.length_append]
            have k1 := sRows_le L W w0 h0 M fx fy nx j
            have k2 := sRow_le L W w0 h0 M fx fy j i
            have k3 : j * nx ≤ 65536 * 4096 := Nat.mul_le_mul (by have := HJ.out; omega) nx1
            omega)
          obtain ⟨F, hFe⟩ : ∃ F, sRows L W w0 h0 M fx fy nx j ++ sRow L W w0 h0 M fx fy j i = F := ⟨_, rfl⟩
          rw [hFe] at HR2 HLE
          have HFE := Lib.hid hFe
          clear hi2 hXe hF hrow q0 q1 p0 p1 hend m0 m1 m2 o0 o1 o2 hFe
          go_loopg [31] h0.toNat (fun g3 s31 wy => ∃ r : Nat, r + g3 = h0.toNat ∧ s31 = .int .i64 r ∧ SF w wy 44 73 (.int .i64 W) (.int .i64 H) (.slice (some ⟨b, off, none⟩) n1 c) (.int .i64 w0) (.int .i64 h0) (.slice (some ⟨b2, off2, none⟩) n2 c2) fx fy lx ly ∧ wy.ownsRow (w.heap.size + 4) 73 2 u9 F.length (pairs F) ∧ Hid (∀ r', r' < r → Rc.cutL L W X (Y + (r' : Int)) w0 = Rc.cutL M w0 0 (r' : Int) w0))
          case atStart => exact ⟨0, by omega, rfl, HF2.out, HR2.out, fun r' hr' => by omega⟩
          case round =>
            obtain ⟨r, hr, rfl, hF, hrow, hall⟩ := hrel
            obtain ⟨m0, m1, m2⟩ := hF.m.cells
            obtain ⟨o0, o1, o2⟩ := hF.o.cells
            cases gk with
            | zero =>
              have hend : ¬ (r : Int) < h0 := by omega
              have hend2 : decide ((r : Int) < h0) = false := decide_eq_false hend
              obtain rfl : r = h0.toNat := by omega
              have hE := Lib.hid (show Rc.eqAt L W w0 h0 M (fx + i) (fy + j) = true by rw [HXE.out, HYE.out]; exact decide_eq_true hall.out)
              have hsz := hF.size
              clear m0 m1 m2 o0 o1 o2 hall
              go_wp2_with (at_builtin; refine wpList_append_own _ rfl _ _ 70 rfl (w.heap.size + 4) 73 i0 (.agg #[.int .i64 0, .int .i64 0]) 2 16 Tryz.underlying70 hi hz0 hz1 hz2 rfl (by decide) _ F.length (pairs F) rfl (hrow.alloc _) ⟨wr.heap.size, 0, none⟩ 1 1 [.int .i64 X, .int .i64 Y] rfl rfl (pair_new _ _ _ _) (one_pair _ _) (by have := HLE.out; unfold maxLen; omega) (by have := HLE.out; omega) (by simp; omega) ?_; intro v' w1 hown' hgrow' _)
              have hB4 := ((Below.refl (w.heap.size + 4) wr).alloc hsz (.cells #[.int .i64 X, .int .i64 Y] 73)).grown hgrow' (by simp; omega) (fun jb ej => (hrow.lt jb ej).1)
              go_roundg g2
              case measure => omega
              case rel =>
                refine ⟨i + 1, by have := HI.out; omega, by rw [← HXE.out]; simp; omega, hF.later hB4, ?_⟩
                rw [sRow_yes hE.out, HXE.out, HYE.out, ← List.append_assoc, HFE.out, pairs_append, pairs_one, List.length_append]
                exact hown'
            | succ g3 =>
              have hlt : (r : Int) < h0 := by omega
              have hyr := Rc.insV_row HY.out (k := r) (by omega)
              obtain ⟨p1, p2, p3, p4⟩ := place HL.out HX.out hyr
              obtain ⟨r1, r2, r3, r4⟩ := place (x := 0) (y := (r : Int)) (n := w0) HM.out (by rw [Rc.insV_iff]; omega) (by rw [Rc.insV_iff]; omega)
              have hCut := Lib.hid (fun W2 => cut_any W H X (Y + r) w0 b off L.length c _ w0.toNat (by have := HL.out.1; omega) X0 (by omega) p1 (by omega) (by omega) p3 (by rw [HN1.out]; exact hc) hcm W2)
              have hRow := Lib.hid (fun W2 => row_any w0 h0 r b2 off2 M.length c2 _ w0.toNat hw1 (by omega) r2 (by omega) r4 (by rw [HN2.out]; exact hd) hdm W2)
              rw [HN1.out] at hCut
              rw [HN2.out] at hRow
              have hs1 := Lib.hid (slk_cut HS.out p3)
              have hs2 := Lib.hid (slk_cut (m := w0.toNat) HS2.out r4)
              have hE1 : Hid (Rc.cutL L W X (Y + r) w0 = (L.drop ((Y + r).toNat * W.toNat + X.toNat)).take w0.toNat) := rfl
              have hE2 : Hid (Rc.cutL M w0 0 r w0 = (M.drop ((r : Int).toNat * w0.toNat)).take w0.toNat) := by show _ = _; simp [Rc.cutL]
              generalize (Y + r).toNat * W.toNat + X.toNat = pc at hCut hs1 hE1
              generalize (r : Int).toNat * w0.toNat = pr at hRow hs2 hE2
              generalize (L.drop pc).take w0.toNat = us at hs1 hE1
              generalize (M.drop pr).take w0.toNat = vs at hs2 hE2
              have hyk2 : wrap64 (Y + r) = Y + r := by rw [IntWalk.wrap64_in] <;> omega
              have hyk3 : IntKind.i64.wrap (Y + r) = Y + r := by rw [IntWalk.i64_in] <;> omega
              clear p1 p2 p3 p4 r1 r2 r3 r4 hyr
              have hBt := Below.refl wr.heap.size wr
              have hFd := hF
              cases hq : decide (us = vs)
              · have hne := Lib.hid (of_decide_eq_false hq)
                go_wp2
                replace hBt := hBt.drew
                go_region_held3 (fun w' => w'.cell? ⟨w.heap.size, 0, none⟩ = some (.int .i64 W) ∧ w'.cell? ⟨w.heap.size, 1, none⟩ = some (.int .i64 H) ∧ w'.cell? ⟨w.heap.size, 2, none⟩ = some (.slice (some ⟨b, off, none⟩) n1 c) ∧ w'.cell? ⟨w.heap.size + 1, 0, none⟩ = some (.int .i64 w0) ∧ w'.cell? ⟨w.heap.size + 1, 1, none⟩ = some (.int .i64 h0) ∧ w'.cell? ⟨w.heap.size + 1, 2, none⟩ = some (.slice (some ⟨b2, off2, none⟩) n2 c2))
                  (first | exact ⟨m0, m1, m2, o0, o1, o2⟩ | exact ⟨cell_later hBt m0, cell_later hBt m1, cell_later hBt m2, cell_later hBt o0, cell_later hBt o1, cell_later hBt o2⟩)
                  (first
                    | (go_at_call 169; refine (hRow.out _).mono ?_; rintro e w9 ⟨rfl, hb9⟩; replace hBt := bel_step hBt hb9)
                    | (go_at_call 168; refine (hCut.out _).mono ?_; rintro e w9 ⟨rfl, hb9⟩; replace hBt := bel_step hBt hb9)
                    | (go_at_call 127; refine (equal_any _ _ _ _ _ _ us vs _ (by omega) (hs1.out.below (hFd.bel.trans (hBt.mono hFd.bel.size))) (hs2.out.below (hFd.bel.trans (hBt.mono hFd.bel.size)))).mono ?_; rw [hq]; rintro e w9 ⟨rfl, hb9⟩; replace hBt := bel_step hBt hb9))
                have hB4 : Below (w.heap.size + 4) wr w9 := hBt.mono hFd.size
                have hE := Lib.hid (show Rc.eqAt L W w0 h0 M (fx + i) (fy + j) = false by
                  rw [HXE.out, HYE.out]
                  refine decide_eq_false fun h => hne.out ?_
                  rw [← hE1.out, ← hE2.out]
                  exact h r (by omega))
                go_wp2
                go_roundg g2
                case measure => omega
                case rel =>
                  refine ⟨i + 1, by have := HI.out; omega, by rw [← HXE.out]; simp; omega, hFd.later hB4, ?_⟩
                  rw [sRow_no hE.out, HFE.out]
                  exact ownsRow_later hrow hBt
              · have heq := Lib.hid (of_decide_eq_true hq)
                go_wp2
                replace hBt := hBt.drew
                go_region_held3 (fun w' => w'.cell? ⟨w.heap.size, 0, none⟩ = some (.int .i64 W) ∧ w'.cell? ⟨w.heap.size, 1, none⟩ = some (.int .i64 H) ∧ w'.cell? ⟨w.heap.size, 2, none⟩ = some (.slice (some ⟨b, off, none⟩) n1 c) ∧ w'.cell? ⟨w.heap.size + 1, 0, none⟩ = some (.int .i64 w0) ∧ w'.cell? ⟨w.heap.size + 1, 1, none⟩ = some (.int .i64 h0) ∧ w'.cell? ⟨w.heap.size + 1, 2, none⟩ = some (.slice (some ⟨b2, off2, none⟩) n2 c2))
                  (first | exact ⟨m0, m1, m2, o0, o1, o2⟩ | exact ⟨cell_later hBt m0, cell_later hBt m1, cell_later hBt m2, cell_later hBt o0, cell_later hBt o1, cell_later hBt o2⟩)
                  (first
                    | (go_at_call 169; refine (hRow.out _).mono ?_; rintro e w9 ⟨rfl, hb9⟩; replace hBt := bel_step hBt hb9)
                    | (go_at_call 168; refine (hCut.out _).mono ?_; rintro e w9 ⟨rfl, hb9⟩; replace hBt := bel_step hBt hb9)
                    | (go_at_call 127; refine (equal_any _ _ _ _ _ _ us vs _ (by omega) (hs1.out.below (hFd.bel.trans (hBt.mono hFd.bel.size))) (hs2.out.below (hFd.bel.trans (hBt.mono hFd.bel.size)))).mono ?_; rw [hq]; rintro e w9 ⟨rfl, hb9⟩; replace hBt := bel_step hBt hb9))
                have hB4 : Below (w.heap.size + 4) wr w9 := hBt.mono hFd.size
                go_wp2
                go_roundg g3
                case measure => omega
                case rel =>
                  refine ⟨r + 1, by omega, by go_num, hFd.later hB4, ownsRow_later hrow hBt, fun r' hr' => ?_⟩
                  rcases Nat.lt_or_ge r' r with h | h
                  · exact hall.out r' h
                  · obtain rfl : r' = r := by omega
                    rw [hE1.out, hE2.out, heq.out]
end Go.Proofs.YtooilemglmndeaaGreat

/- The eight ways to lay a rectangle of numbers, as plain lists. No run of a program. No condition. -/
import Derived.Test.YteonfgphihacgaaRecMath
namespace Go.Proofs.Yteonfgphihacgaa
set_option linter.unusedVariables false
namespace Tu
/-- numbers by their places, row by row -/
def grid (w h : Nat) (f : Nat → Nat → Int) : List Int := (List.range (w * h)).map fun i => f (i % w) (i / w)
def atL (L : List Int) (w x y : Nat) : Int := L.getD (y * w + x) 0
theorem grid_len (w h : Nat) (f : Nat → Nat → Int) : (grid w h f).length = w * h := by simp [grid]
theorem pos_lt {w h x y : Nat} (hx : x < w) (hy : y < h) : y * w + x < w * h := by
  have : (y + 1) * w ≤ h * w := Nat.mul_le_mul_right w hy
  rw [Nat.succ_mul] at this
  rw [Nat.mul_comm w h]; omega
theorem at_grid {w h : Nat} {f : Nat → Nat → Int} {x y : Nat} (hx : x < w) (hy : y < h) : atL (grid w h f) w x y = f x y := by
  unfold atL grid
  have hp := pos_lt hx hy
  rw [List.getD_eq_getElem?_getD, List.getElem?_map, List.getElem?_range hp]
  show f ((y * w + x) % w) ((y * w + x) / w) = f x y
  have e1 : (y * w + x) % w = x := by rw [Nat.add_comm, Nat.add_mul_mod_self_right, Nat.mod_eq_of_lt hx]
  have e2 : (y * w + x) / w = y := by rw [Nat.add_comm, Nat.add_mul_div_right _ _ (by omega), Nat.div_eq_of_lt hx]; omega
  rw [e1, e2]
theorem grid_congr {w h : Nat} {f g : Nat → Nat → Int} (e : ∀ x y, x < w → y < h → f x y = g x y) : grid w h f = grid w h g := by
  unfold grid
  refine List.map_congr_left fun i hi => ?_
  have hi' := List.mem_range.1 hi
  have hw : 0 < w := by
    rcases Nat.eq_zero_or_pos w with h0 | h0
    · subst h0; omega
    · exact h0
  exact e _ _ (Nat.mod_lt _ hw) (Nat.div_lt_of_lt_mul hi')
theorem grid_self {w h : Nat} {L : List Int} (hL : L.length = w * h) : grid w h (atL L w) = L := by
  unfold grid atL
  refine List.ext_getElem (by simp [hL]) fun i h1 h2 => ?_
  simp only [List.getElem_map, List.getElem_range]
  rw [Nat.mul_comm (i / w) w, Nat.add_comm, Nat.mod_add_div, List.getD_eq_getElem?_getD, List.getElem?_eq_getElem h2]
  rfl
theorem grid_rows (w h : Nat) (f : Nat → Nat → Int) : grid w h f = Rc.rowsOf (fun y => (List.range w).map fun x => f x y) h := by
  induction h with
  | zero => simp [grid, Rc.rowsOf_zero]
  | succ h ih =>
    rw [Rc.rowsOf_succ, ← ih]
    unfold grid
    rw [Nat.mul_succ, List.range_add, List.map_append, List.map_map]
    congr 1
    refine List.map_congr_left fun i hi => ?_
    have hi' := List.mem_range.1 hi
    show f ((w * h + i) % w) ((w * h + i) / w) = f i h
    rw [Nat.mul_add_mod, Nat.mod_eq_of_lt hi', Nat.mul_add_div (by omega), Nat.div_eq_of_lt hi', Nat.add_zero]
theorem grid_inj {w h : Nat} {f g : Nat → Nat → Int} (e : grid w h f = grid w h g) {x y : Nat} (hx : x < w) (hy : y < h) : f x y = g x y := by
  rw [← at_grid (f := f) hx hy, e, at_grid hx hy]
/-! one turn -/
def sw (g w h : Nat) : Nat := if g % 2 = 1 then h else w
/-- where what stands at x, y then stood: of r quarters -/
def qx (r w h x y : Nat) : Nat := if r = 0 then x else if r = 1 then y else if r = 2 then w - 1 - x else w - 1 - y
def qy (r w h x y : Nat) : Nat := if r = 0 then y else if r = 1 then h - 1 - x else if r = 2 then h - 1 - y else x
def sx (g w h x y : Nat) : Nat := if g < 4 then qx (g % 4) w h x y else w - 1 - qx (g % 4) w h x y
def sy (g w h x y : Nat) : Nat := qy (g % 4) w h x y
def layL (g w h : Nat) (L : List Int) : List Int := grid (sw g w h) (sw g h w) fun x y => atL L w (sx g w h x y) (sy g w h x y)
def mirL (w h : Nat) (L : List Int) : List Int := grid w h fun x y => atL L w (w - 1 - x) y
def quaL (w h : Nat) (L : List Int) : List Int := grid h w fun x y => atL L w y (h - 1 - x)
theorem turn8 {g : Nat} (h : g < 8) : g = 0 ∨ g = 1 ∨ g = 2 ∨ g = 3 ∨ g = 4 ∨ g = 5 ∨ g = 6 ∨ g = 7 := by omega
theorem src_in {g w h x y : Nat} (hg : g < 8) (hx : x < sw g w h) (hy : y < sw g h w) : sx g w h x y < w ∧ sy g w h x y < h := by
  rcases turn8 hg with rfl | rfl | rfl | rfl | rfl | rfl | rfl | rfl <;> simp [sw, sx, sy, qx, qy] at * <;> omega
theorem layL_len (g w h : Nat) (L : List Int) : (layL g w h L).length = w * h := by
  rw [layL, grid_len]; unfold sw; split
  · exact Nat.mul_comm h w
  · rfl
theorem lay0 {w h : Nat} {L : List Int} (hL : L.length = w * h) : layL 0 w h L = L := by
  conv => rhs; rw [← grid_self hL]
  rfl
theorem lay1 (w h : Nat) (L : List Int) : layL 1 w h L = quaL w h L := rfl
theorem lay2 (w h : Nat) (L : List Int) : layL 2 w h L = quaL h w (quaL w h L) := by
  refine grid_congr fun x y hx hy => ?_
  simp only [sw] at hx hy
  simp only [sx, sy, qx, qy, quaL]
  rw [at_grid (by simp at hy; omega) (by simp at hx; omega)]
  simp
theorem lay3 (w h : Nat) (L : List Int) : layL 3 w h L = quaL w h (quaL h w (quaL w h L)) := by
  rw [← lay2 w h L]
  refine grid_congr fun x y hx hy => ?_
  simp [sw] at hx hy
  have e := at_grid (w := w) (h := h) (f := fun x y => atL L w (sx 2 w h x y) (sy 2 w h x y)) (x := y) (y := h - 1 - x) hy (by omega)
  show _ = atL (grid w h _) w y (h - 1 - x)
  rw [e]
  simp [sx, sy, qx, qy]
  congr 1; omega
theorem layM {r w h : Nat} (hr : r < 4) (L : List Int) : layL (4 + r) w h L = layL r w h (mirL w h L) := by
  have h4 : r = 0 ∨ r = 1 ∨ r = 2 ∨ r = 3 := by omega
  have e1 : sw (4 + r) w h = sw r w h := by rcases h4 with rfl | rfl | rfl | rfl <;> rfl
  have e2 : sw (4 + r) h w = sw r h w := by rcases h4 with rfl | rfl | rfl | rfl <;> rfl
  unfold layL
  rw [e1, e2]
  refine grid_congr fun x y hx hy => ?_
  have hs := src_in (by omega : r < 8) hx hy
  rw [mirL, at_grid hs.1 hs.2]
  rcases h4 with rfl | rfl | rfl | rfl <;> rfl
/-! two turns in one -/
def thenN (g h : Nat) : Nat :=
  let r := ((if 4 ≤ h then 4 - g % 4 else g % 4) + h % 4) % 4
  if (4 ≤ g) = (4 ≤ h) then r else 4 + r
theorem sw_sw {p q w h : Nat} (hp : p < 8) (hq : q < 8) : sw q (sw p w h) (sw p h w) = sw (thenN p q) w h := by
  rcases turn8 hp with rfl | rfl | rfl | rfl | rfl | rfl | rfl | rfl <;> rcases turn8 hq with rfl | rfl | rfl | rfl | rfl | rfl | rfl | rfl <;> rfl
theorem thenN_lt {p q : Nat} (hp : p < 8) (hq : q < 8) : thenN p q < 8 := by
  rcases turn8 hp with rfl | rfl | rfl | rfl | rfl | rfl | rfl | rfl <;> rcases turn8 hq with rfl | rfl | rfl | rfl | rfl | rfl | rfl | rfl <;> decide
theorem lay_lay {p q w h : Nat} (hp : p < 8) (hq : q < 8) (L : List Int) : layL q (sw p w h) (sw p h w) (layL p w h L) = layL (thenN p q) w h L := by
  unfold layL
  rw [sw_sw hp hq, sw_sw hp hq]
  refine grid_congr fun x y hx hy => ?_
  have hx' := hx; have hy' := hy
  rw [← sw_sw hp hq] at hx' hy'
  have hs := src_in hq hx' hy'
  rw [at_grid hs.1 hs.2]
  have hs2 := src_in hp hs.1 hs.2
  congr 1
  all_goals
    clear hs2
    rcases turn8 hp with rfl | rfl | rfl | rfl | rfl | rfl | rfl | rfl <;> rcases turn8 hq with rfl | rfl | rfl | rfl | rfl | rfl | rfl | rfl <;>
      simp [sw, sx, sy, qx, qy, thenN] at hx' hy' ⊢ <;> omega
end Tu
end Go.Proofs.Yteonfgphihacgaa

/- Plain facts on rasters of digits: a reader as a plain function that is told bytes one by one. No condition. -/
import Derived.Test.YtldhhhmihfcalaaHedK
import Derived.Test.YtldhhhmihfcalaaQPixMath
namespace Go.Proofs.Ytldhhhmihfcalaa
open Go.RowKit
set_option linter.unusedVariables false
namespace Pl
/-- a reader: its head, the number that is told, whether digits are, samples of a pixel, pixels of a row, how many rows were told, whether it is over or wrong (1, 2), why -/
structure S where
  h : Hd.H
  n : Int
  d : Bool
  one : List Int
  row : List Int
  rows : Int
  last : Int
  e : Int
def new (h : Hd.H) : S := ⟨h, 0, false, [], [], 0, 0, 0⟩
def wrong (s : S) (e : Int) : S := ⟨s.h, s.n, s.d, s.one, s.row, s.rows, 2, e⟩
def pix (s : S) (n : Int) : Int := (Pq.Px.packV (s.one ++ [n])).1
/-- a sample that ends no pixel; one that ends no row; one that ends a row -/
def more (s : S) (n : Int) : S := ⟨s.h, 0, false, s.one ++ [n], s.row, s.rows, 0, 0⟩
def pixel (s : S) (n : Int) : S := ⟨s.h, 0, false, [], s.row ++ [pix s n], s.rows, 0, 0⟩
def line (s : S) (n : Int) : S := ⟨s.h, 0, false, [], [], s.rows + 1, if s.rows + 1 = s.h.h then 1 else 0, 0⟩
def sample (s : S) (n : Int) : S × List Int :=
  if (s.one.length : Int) + 1 < Hj.chan s.h then (more s n, [])
  else if (s.row.length : Int) + 1 < s.h.w then (pixel s n, [])
  else (line s n, s.row ++ [pix s n])
def digit (s : S) (n : Int) : S := ⟨s.h, n, true, s.one, s.row, s.rows, 0, 0⟩
def put (s : S) (c : Int) : S × List Int :=
  if s.last ≠ 0 then (s, [])
  else if Tk.blank c = true then (if s.d = true then sample s s.n else (s, []))
  else if s.h.kd = 1 then (if c = 48 ∨ c = 49 then sample s (c - 48) else (wrong s 3, []))
  else if (Nu.stepV s.n c s.h.m).2 = 0 then (digit s (Nu.stepV s.n c s.h.m).1, [])
  else (wrong s (if (Nu.stepV s.n c s.h.m).2 = 4 then 5 else (Nu.stepV s.n c s.h.m).2), [])
def fin (s : S) : S × List Int :=
  if (put s 32).1.last = 0 then (wrong (put s 32).1 6, (put s 32).2) else put s 32
/-- which heads are a plain raster's -/
def May (h : Hd.H) : Prop := Hd.May h ∧ h.kd ≤ 3
/-- what is so of each reader -/
structure Good (s : S) : Prop where
  may : May s.h
  n0 : 0 ≤ s.n
  n1 : s.n ≤ s.h.m
  nd : s.d = false → s.n = 0
  kd : s.h.kd = 1 → s.d = false
  one : (s.one.length : Int) < Hj.chan s.h
  oneIn : ∀ x ∈ s.one, 0 ≤ x ∧ x ≤ s.h.m
  row : (s.row.length : Int) < s.h.w
  rows0 : 0 ≤ s.rows
  rows1 : s.last = 0 → s.rows < s.h.h
  rows2 : s.rows ≤ s.h.h
  last : s.last = 0 ∨ s.last = 1 ∨ s.last = 2
  e0 : s.last ≠ 2 → s.e = 0
  e2 : s.last = 2 → s.e = 3 ∨ s.e = 5 ∨ s.e = 6
theorem May.m {h : Hd.H} (H : May h) : 1 ≤ h.m ∧ h.m ≤ 65535 ∧ 1 ≤ h.w ∧ h.w ≤ 4096 ∧ 1 ≤ h.h ∧ h.h ≤ 65536 ∧ 1 ≤ h.kd ∧ h.kd ≤ 3 := by
  obtain ⟨h1, h2⟩ := H
  unfold Hd.May at h1
  omega
theorem good_new {h : Hd.H} (H : May h) : Good (new h) := by
  have := H.m
  have hc := Hj.chan_at h
  exact ⟨H, Int.le_refl _, by show (0 : Int) ≤ h.m; omega, fun _ => rfl, fun _ => rfl, by show ((0 : Nat) : Int) < Hj.chan h; omega, (fun x hx => by cases hx), by show ((0 : Nat) : Int) < h.w; omega, Int.le_refl _, fun _ => by show (0 : Int) < h.h; omega, by show (0 : Int) ≤ h.h; omega, .inl rfl, fun _ => rfl, (fun h => absurd h (show ¬ (0 : Int) = 2 by decide))⟩
theorem good_wrong {s : S} (H : Good s) {e : Int} (he : e = 3 ∨ e = 5 ∨ e = 6) : Good (wrong s e) :=
  ⟨H.may, H.n0, H.n1, H.nd, H.kd, H.one, H.oneIn, H.row, H.rows0, (fun h => absurd h (show ¬ (2 : Int) = 0 by decide)), H.rows2, .inr (.inr rfl), fun h => absurd rfl h, fun _ => he⟩
theorem good_sample {s : S} (H : Good s) (h0 : s.last = 0) (n : Int) (n0 : 0 ≤ n) (n1 : n ≤ s.h.m) : Good (sample s n).1 := by
  have hm := H.may.m
  have hc := Hj.chan_at s.h
  have hr := H.rows1 h0
  have hr0 := H.rows0
  have ho := H.one
  have hw := H.row
  unfold sample
  split
  · rename_i h1
    exact ⟨H.may, Int.le_refl _, by show (0 : Int) ≤ s.h.m; omega, fun _ => rfl, fun _ => rfl, by show (((s.one ++ [n]).length : Nat) : Int) < Hj.chan s.h; rw [List.length_append, List.length_singleton]; omega, (fun x hx => by
      rcases List.mem_append.1 hx with hx | hx
      · exact H.oneIn x hx
      · rw [List.mem_singleton.1 hx]; exact ⟨n0, n1⟩), H.row, H.rows0, fun _ => hr, H.rows2, .inl rfl, fun _ => rfl, (fun h => absurd h (show ¬ (0 : Int) = 2 by decide))⟩
  split
  · rename_i h1 h2
    exact ⟨H.may, Int.le_refl _, by show (0 : Int) ≤ s.h.m; omega, fun _ => rfl, fun _ => rfl, by show ((0 : Nat) : Int) < Hj.chan s.h; omega, (fun x hx => by cases hx), by show (((s.row ++ [pix s n]).length : Nat) : Int) < s.h.w; rw [List.length_append, List.length_singleton]; omega, H.rows0, fun _ => hr, H.rows2, .inl rfl, fun _ => rfl, (fun h => absurd h (show ¬ (0 : Int) = 2 by decide))⟩
  · refine ⟨H.may, Int.le_refl _, by show (0 : Int) ≤ s.h.m; omega, fun _ => rfl, fun _ => rfl, by show ((0 : Nat) : Int) < Hj.chan s.h; omega, (fun x hx => by cases hx), by show ((0 : Nat) : Int) < s.h.w; omega, by show 0 ≤ s.rows + 1; omega, ?_, by show s.rows + 1 ≤ s.h.h; omega, ?_, fun _ => rfl, ?_⟩
    · intro h
      have h : (if s.rows + 1 = s.h.h then (1 : Int) else 0) = 0 := h
      show s.rows + 1 < s.h.h
      split at h
      · cases h
      · omega
    · show (if s.rows + 1 = s.h.h then (1 : Int) else 0) = 0 ∨ (if s.rows + 1 = s.h.h then (1 : Int) else 0) = 1 ∨ _
      split
      · exact .inr (.inl rfl)
      · exact .inl rfl
    · intro h
      have h : (if s.rows + 1 = s.h.h then (1 : Int) else 0) = 2 := h
      split at h <;> cases h
theorem good_put {s : S} (H : Good s) (c : Int) : Good (put s c).1 := by
  have hm := H.may.m
  unfold put
  split
  · exact H
  rename_i h0
  have h0 : s.last = 0 := by omega
  split
  · split
    · exact good_sample H h0 s.n H.n0 H.n1
    · exact H
  split
  · split
    · exact good_sample H h0 (c - 48) (by omega) (by omega)
    · exact good_wrong H (.inl rfl)
  rename_i hk
  split
  · rename_i he
    obtain ⟨g1, g2⟩ := Nu.stepV_le s.n c s.h.m H.n0 H.n1 he
    exact ⟨H.may, g1, g2, (fun h => absurd h (show ¬ true = false by decide)), (fun h => absurd h hk), H.one, H.oneIn, H.row, H.rows0, (fun _ => H.rows1 h0), H.rows2, .inl rfl, fun _ => rfl, (fun h => absurd h (show ¬ (0 : Int) = 2 by decide))⟩
  · rename_i he
    refine good_wrong H ?_
    have := Tk.stepV_e s.n c s.h.m
    split <;> omega
theorem good_fin {s : S} (H : Good s) : Good (fin s).1 := by
  unfold fin
  split
  · exact good_wrong (good_put H 32) (.inr (.inr rfl))
  · exact good_put H 32
end Pl
end Go.Proofs.Ytldhhhmihfcalaa

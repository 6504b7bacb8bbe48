/- Plain facts on rasters of digits: a reader as a plain function that is told bytes one by one. No condition. -/
import Derived.Test.YtldhhhmihfcalaaZHedK
import Derived.Test.YtldhhhmihfcalaaZgAA
import Derived.Test.YtldhhhmihfcalaaZHedB
import Derived.Test.YtldhhhmihfcalaaZQPixC
import Derived.Test.YtldhhhmihfcalaaZgAB
namespace Go.Proofs.Ytldhhhmihfcalaa
open Go.RowKit
set_option linter.unusedVariables false
namespace Pl
/-- a reader: its head, the number that is told, whether digits are, samples of a pixel, pixels of a row, how many rows were told, whether it is over or wrong (1, 2), why -/
structure S where
  h : Hd.H
  n : Int
  d : Bool
  one : List Int
  row : List Int
  rows : Int
  last : Int
  e : Int
def new (h : Hd.H) : S := ⟨h, 0, false, [], [], 0, 0, 0⟩
def wrong (s : S) (e : Int) : S := ⟨s.h, s.n, s.d, s.one, s.row, s.rows, 2, e⟩
def pix (s : S) (n : Int) : Int := (Pq.Px.packV (s.one ++ [n])).1
/-- a sample that ends no pixel; one that ends no row; one that ends a row -/
def more (s : S) (n : Int) : S := ⟨s.h, 0, false, s.one ++ [n], s.row, s.rows, 0, 0⟩
def pixel (s : S) (n : Int) : S := ⟨s.h, 0, false, [], s.row ++ [pix s n], s.rows, 0, 0⟩
def line (s : S) (n : Int) : S := ⟨s.h, 0, false, [], [], s.rows + 1, if s.rows + 1 = s.h.h then 1 else 0, 0⟩
def sample (s : S) (n : Int) : S × List Int :=
  if (s.one.length : Int) + 1 < Hj.chan s.h then (more s n, [])
  else if (s.row.length : Int) + 1 < s.h.w then (pixel s n, [])
  else (line s n, s.row ++ [pix s n])
def digit (s : S) (n : Int) : S := ⟨s.h, n, true, s.one, s.row, s.rows, 0, 0⟩
def put (s : S) (c : Int) : S × List Int :=
  if s.last ≠ 0 then (s, [])
  else if Tk.blank c = true then (if s.d = true then sample s s.n else (s, []))
  else if s.h.kd = 1 then (if c = 48 ∨ c = 49 then sample s (c - 48) else (wrong s 3, []))
  else if (Nu.stepV s.n c s.h.m).2 = 0 then (digit s (Nu.stepV s.n c s.h.m).1, [])
  else (wrong s (if (Nu.stepV s.n c s.h.m).2 = 4 then 5 else (Nu.stepV s.n c s.h.m).2), [])
def fin (s : S) : S × List Int :=
  if (put s 32).1.last = 0 then (wrong (put s 32).1 6, (put s 32).2) else put s 32
/-- which heads are a plain raster's -/
def May (h : Hd.H) : Prop := Hd.May h ∧ h.kd ≤ 3
/-- what is so of each reader -/
structure Good (s : S) : Prop where
  may : May s.h
  n0 : 0 ≤ s.n
  n1 : s.n ≤ s.h.m
  nd : s.d = false → s.n = 0
  kd : s.h.kd = 1 → s.d = false
  one : (s.one.length : Int) < Hj.chan s.h
  oneIn : ∀ x ∈ s.one, 0 ≤ x ∧ x ≤ s.h.m
  row : (s.row.length : Int) < s.h.w
  rows0 : 0 ≤ s.rows
  rows1 : s.last = 0 → s.rows < s.h.h
  rows2 : s.rows ≤ s.h.h
  last : s.last = 0 ∨ s.last = 1 ∨ s.last = 2
  e0 : s.last ≠ 2 → s.e = 0
  e2 : s.last = 2 → s.e = 3 ∨ s.e = 5 ∨ s.e = 6
theorem May.m {h : Hd.H} (H : May h) : 1 ≤ h.m ∧ h.m ≤ 65535 ∧ 1 ≤ h.w ∧ h.w ≤ 4096 ∧ 1 ≤ h.h ∧ h.h ≤ 65536 ∧ 1 ≤ h.kd ∧ h.kd ≤ 3 := by
  obtain ⟨h1, h2⟩ := H
  unfold Hd.May at h1
  omega
theorem good_new {h : Hd.H} (H : May h) : Good (new h) := by
  have := H.m
  have hc := Hj.chan_at h
  exact ⟨H, Int.le_refl _, by show (0 : Int) ≤ h.m; omega, fun _ => rfl, fun _ => rfl, by show ((0 : Nat) : Int) < Hj.chan h; omega, (fun x hx => by cases hx), by show ((0 : Nat) : Int) < h.w; omega, Int.le_refl _, fun _ => by show (0 : Int) < h.h; omega, by show (0 : Int) ≤ h.h; omega, .inl rfl, fun _ => rfl, (fun h => absurd h (show ¬ (0 : Int) = 2 by decide))⟩
theorem good_wrong {s : S} (H : Good s) {e : Int} (he : e = 3 ∨ e = 5 ∨ e = 6) : Good (wrong s e) :=
  ⟨H.may, H.n0, H.n1, H.nd, H.kd, H.one, H.oneIn, H.row, H.rows0, (fun h => absurd h (show ¬ (2 : Int) = 0 by decide)), H.rows2, .inr (.inr rfl), fun h => absurd rfl h, fun _ => he⟩
theorem good_sample {s : S} (H : Good s) (h0 : s.last = 0) (n : Int) (n0 : 0 ≤ n) (n1 : n ≤ s.h.m) : Good (sample s n).1 := by
  have hm := H.may.m
  have hc := Hj.chan_at s.h
  have hr := H.rows1 h0
  have hr0 := H.rows0
  have ho := H.one
  have hw := H.row
  unfold sample
  split
  · rename_i h1
    exact ⟨H.may, Int.le_refl _, by show (0 : Int) ≤ s.h.m; omega, fun _ => rfl, fun _ => rfl, by show (((s.one ++ [n]).length : Nat) : Int) < Hj.chan s.h; rw [List.length_append, List.length_singleton]; omega, (fun x hx => by
      rcases List.mem_append.1 hx with hx | hx
      · exact H.oneIn x hx
      · rw [List.mem_singleton.1 hx]; exact ⟨n0, n1⟩), H.row, H.rows0, fun _ => hr, H.rows2, .inl rfl, fun _ => rfl, (fun h => absurd h (show ¬ (0 : Int) = 2 by decide))⟩
  split
  · rename_i h1 h2
    exact ⟨H.may, Int.le_refl _, by show (0 : Int) ≤ s.h.m; omega, fun _ => rfl, fun _ => rfl, by show ((0 : Nat) : Int) < Hj.chan s.h; omega, (fun x hx => by cases hx), by show (((s.row ++ [pix s n]).length : Nat) : Int) < s.h.w; rw [List.length_append, List.length_singleton]; omega, H.rows0, fun _ => hr, H.rows2, .inl rfl, fun _ => rfl, (fun h => absurd h (show ¬ (0 : Int) = 2 by decide))⟩
  · refine ⟨H.may, Int.le_refl _, by show (0 : Int) ≤ s.h.m; omega, fun _ => rfl, fun _ => rfl, by show ((0 : Nat) : Int) < Hj.chan s.h; omega, (fun x hx => by cases hx), by show ((0 : Nat) : Int) < s.h.w; omega, by show 0 ≤ s.rows + 1; omega, ?_, by show s.rows + 1 ≤ s.h.h; omega, ?_, fun _ => rfl, ?_⟩
    · intro h
      have h : (if s.rows + 1 = s.h.h then (1 : Int) else 0) = 0 := h
      show s.rows + 1 < s.h.h
      split at h
      · cases h
      · omega
    · show (if s.rows + 1 = s.h.h then (1 : Int) else 0) = 0 ∨ (if s.rows + 1 = s.h.h then (1 : Int) else 0) = 1 ∨ _
      split
      · exact .inr (.inl rfl)
      · exact .inl rfl
    · intro h
      have h : (if s.rows + 1 = s.h.h then (1 : Int) else 0) = 2 := h
      split at h <;> cases h
theorem good_put {s : S} (H : Good s) (c : Int) : Good (put s c).1 := by
  have hm := H.may.m
  unfold put
  split
  · exact H
  rename_i h0
  have h0 : s.last = 0 := by omega
  split
  · split
    · exact good_sample H h0 s.n H.n0 H.n1
    · exact H
  split
  · split
    · exact good_sample H h0 (c - 48) (by omega) (by omega)
    · exact good_wrong H (.inl rfl)
  rename_i hk
  split
  · rename_i he
    obtain ⟨g1, g2⟩ := Nu.stepV_le s.n c s.h.m H.n0 H.n1 he
    exact ⟨H.may, g1, g2, (fun h => absurd h (show ¬ true = false by decide)), (fun h => absurd h hk), H.one, H.oneIn, H.row, H.rows0, (fun _ => H.rows1 h0), H.rows2, .inl rfl, fun _ => rfl, (fun h => absurd h (show ¬ (0 : Int) = 2 by decide))⟩
  · rename_i he
    refine good_wrong H ?_
    have := Tk.stepV_e s.n c s.h.m
    split <;> omega
theorem good_fin {s : S} (H : Good s) : Good (fin s).1 := by
  unfold fin
  split
  · exact good_wrong (good_put H 32) (.inr (.inr rfl))
  · exact good_put H 32
end Pl
end Go.Proofs.Ytldhhhmihfcalaa

/- A reader of a head is told a byte of a number, over any memory. Condition: its limits are such as may be. -/
namespace Go.Proofs.Ytldhhhmihfcalaa
open Go.RowKit
set_option linter.unusedVariables false

theorem Tk.val_over {m : Int} {t : Tk.S} (h : Tk.Good m t) (hk : t.k = 4) : Tk.val t = (t.n, 0) := by unfold Tk.val; rw [if_pos (h.2.2.2.2.1 hk)]
theorem Tk.val_wrong {m : Int} {t : Tk.S} (h : Tk.Good m t) (hk : t.k = 5) : Tk.val t = (0, t.e) := by
  have := h.2.2.2.2.2.1 hk
  unfold Tk.val; rw [if_neg (by omega)]
theorem Tk.st_over {t : Tk.S} (hk : t.k = 4) : Tk.st t = 1 := by unfold Tk.st; rw [if_pos hk]
theorem Tk.st_wrong {t : Tk.S} (hk : t.k = 5) : Tk.st t = 2 := by unfold Tk.st; rw [if_neg (by omega), if_pos hk]
theorem Tk.st_more {t : Tk.S} (hk : t.k ≤ 3) : Tk.st t = 0 := by unfold Tk.st; rw [if_neg (by omega), if_neg (by omega)]
theorem some_ne {a b : Nat} (h : a ≠ b) : some a ≠ some b := by intro e; injection e with e; exact h e
/-- told a byte with which its number goes on -/
def TokC (l : Hd.L) (s : Hd.S) (n : Nat) (c : Int) (t : Tk.S) (q : Int) : Prop :=
  ∀ W, RdS W n (l.at s.i) s.t → Calls Try.prog 140 #[.pointer (some ⟨n, 0, none⟩), .int .u8 c] W fun e w' => e = .returned (.int .i64 q) ∧ RdS w' n (l.at s.i) t ∧ W.grownBy w' (some n)
theorem tokC {l : Hd.L} {s : Hd.S} {n : Nat} {c : Int} {t : Tk.S} {q : Int} (hG : Tk.Good (l.at s.i) s.t) (hl : l.Ok) (c0 : 0 ≤ c) (c1 : c ≤ 255) (ht : Tk.put (l.at s.i) s.t c = t) (hq : Tk.st t = q) : TokC l s n c t q := by
  intro W hr
  have h := (put_both hG (by have := Hd.L.at_ok hl s.i; omega) c c0 c1).1 W n hr
  rw [ht] at h
  refine h.mono ?_
  rintro e w' ⟨h1, h2, h3⟩
  exact ⟨by rw [h1, hq], h2, h3⟩
set_option maxHeartbeats 2000000 in
theorem in_more {l : Hd.L} (hl : l.Ok) {s : Hd.S} (hG : Hd.Good l s) (hp : s.p = 3) (c : Int) (c0 : 0 ≤ c) (c1 : c ≤ 255) (t : Tk.S) (ht : Tk.put (l.at s.i) s.t c = t) (hk : t.k ≤ 3) (w : World) (b n : Nat) (h : HdX 0 w b n l s) :
    Calls Try.prog 136 #[.pointer (some ⟨b, 0, none⟩), .int .u8 c] w (InR w b n l (s.tok t)) := by
  have hG' := Hd.good_take hl (hG.2.2.2.2.1 (by omega) (by omega)) (hG.2.2.2.2.2.1 (by omega)) (Tk.good_put (hG.2.1 (by omega)).1 c)
  rw [ht, show Hd.take s t = s.tok t by unfold Hd.take; rw [if_neg (by omega), if_neg (by omega)]] at hG'
  obtain ⟨_, nv, f, x, h1, h2, h3, h4⟩ := h
  obtain ⟨rfl, hr, hne⟩ := h2 hp
  have hx := h3 (by omega)
  rw [hp] at hx
  have hc8 := h1.c8
  have HC := Lib.hid (tokC (n := n) (hG.2.1 (by omega)).1 hl c0 c1 ht (Tk.st_more hk))
  have H1 := Lib.hid h1
  have HR := Lib.hid hr
  have HG' := Lib.hid hG'
  have HX := Lib.hid hx
  clear h1 hr h2 h3 h4 hG hl ht hk hG' hx
  go_enter Try.func136, Try.ntmps136
  go_wp2_with (go_at_call 140; refine (HC.out _ HR.out).mono ?_; rintro e w1 ⟨rfl, hr, hg⟩; have HR1 := Lib.hid hr; have HG1 := Lib.hid hg; clear hr hg)
  go_ret
  exact ⟨n, rfl, ⟨HG'.out, _, f, x, H1.out.kept HG1.out (some_ne (Ne.symm hne)), fun _ => ⟨rfl, HR1.out, hne⟩, fun _ => HX.out, fun h => absurd h (by show ¬ (3 : Nat) = 5; decide)⟩, .grown HG1.out (.inr rfl), .inl rfl⟩
set_option maxHeartbeats 2000000 in
theorem in_wrong {l : Hd.L} (hl : l.Ok) {s : Hd.S} (hG : Hd.Good l s) (hp : s.p = 3) (c : Int) (c0 : 0 ≤ c) (c1 : c ≤ 255) (t : Tk.S) (ht : Tk.put (l.at s.i) s.t c = t) (hk : t.k = 5) (w : World) (b n : Nat) (h : HdX 0 w b n l s) :
    Calls Try.prog 136 #[.pointer (some ⟨b, 0, none⟩), .int .u8 c] w (InR w b n l (s.wrong t.e)) := by
  have hT := Tk.good_put (hG.2.1 (by omega)).1 c
  rw [ht] at hT
  have hG' : Hd.Good l (s.wrong t.e) := Hd.good_wrong (by have := hG.2.2.2.2.2.2.2; omega) (.inr (hT.2.2.2.2.2.1 hk))
  have hv := Tk.val_wrong hT hk
  have hz : (t.e != 0) = true := by have := hT.2.2.2.2.2.1 hk; simp; omega
  obtain ⟨_, nv, f, x, h1, h2, h3, h4⟩ := h
  obtain ⟨rfl, hr, hne⟩ := h2 hp
  have hc8 := h1.c8
  have HC := Lib.hid (tokC (n := n) (hG.2.1 (by omega)).1 hl c0 c1 ht (Tk.st_wrong hk))
  have HV : Hid (∀ W, RdS W n (l.at s.i) t → Calls Try.prog 141 #[.pointer (some ⟨n, 0, none⟩)] W fun e w' => e = .returned (.tuple #[.int .i64 0, .int .i64 t.e]) ∧ W.grownBy w' none) := fun W hr => (value_s hr).mono fun e w' hh => ⟨by rw [hh.1, hv], hh.2⟩
  have HW := Lib.hid hwrong_any
  have H1 := Lib.hid h1
  have HR := Lib.hid hr
  have HG' := Lib.hid hG'
  clear h1 hr h2 h3 h4 hG hl ht hk hG' hT hv
  obtain ⟨e, he⟩ : ∃ e, t.e = e := ⟨_, rfl⟩
  rw [he] at HV HG' hz ⊢
  go_enter Try.func136, Try.ntmps136
  go_wp2_with fail
  refine (HC.out _ HR.out).mono ?_
  rintro e1 w1 ⟨rfl, hr, hg⟩
  have HR1 := Lib.hid hr
  have HG1 := Lib.hid hg
  have h2 := H1.out.kept hg (some_ne (Ne.symm hne))
  have hd8 := h2.c8
  have H2 := Lib.hid h2
  clear hr hg h2
  go_wp2_with fail
  refine (HV.out _ HR1.out).mono ?_
  rintro e1 w2 ⟨rfl, hg⟩
  have HG2 := Lib.hid hg
  have H3 := Lib.hid (H2.out.kept hg (by simp))
  clear hg
  go_wp2_with fail
  refine (HW.out _ _ _ _ _ _ _ _ _ _ _ _ _ _ H3.out _).mono ?_
  rintro e1 w3 ⟨rfl, h3, hg⟩
  have HG3 := Lib.hid hg
  have H4 := Lib.hid h3
  clear h3 hg
  go_wp2
  go_ret
  exact ⟨n, rfl, ⟨HG'.out, _, e, x, H4.out, fun h => absurd h (by show ¬ (5 : Nat) = 3; decide), fun h => absurd h (by show ¬ (5 : Nat) ≤ 3; decide), fun _ => rfl⟩, ((Sep.grown HG1.out (.inr rfl)).trans (.grownN HG2.out)).trans (.grown HG3.out (.inl rfl)), .inl rfl⟩
set_option maxHeartbeats 2000000 in
theorem in_zero {l : Hd.L} (hl : l.Ok) {s : Hd.S} (hG : Hd.Good l s) (hp : s.p = 3) (c : Int) (c0 : 0 ≤ c) (c1 : c ≤ 255) (t : Tk.S) (ht : Tk.put (l.at s.i) s.t c = t) (hk : t.k = 4) (hn : t.n = 0) (w : World) (b n : Nat) (h : HdX 0 w b n l s) :
    Calls Try.prog 136 #[.pointer (some ⟨b, 0, none⟩), .int .u8 c] w (InR w b n l (s.wrong 4)) := by
  have hT := Tk.good_put (hG.2.1 (by omega)).1 c
  rw [ht] at hT
  have hG' : Hd.Good l (s.wrong 4) := Hd.good_wrong (by have := hG.2.2.2.2.2.2.2; omega) (.inr (.inr rfl))
  have hv := Tk.val_over hT hk
  rw [hn] at hv
  obtain ⟨_, nv, f, x, h1, h2, h3, h4⟩ := h
  obtain ⟨rfl, hr, hne⟩ := h2 hp
  have hc8 := h1.c8
  have HC := Lib.hid (tokC (n := n) (hG.2.1 (by omega)).1 hl c0 c1 ht (Tk.st_over hk))
  have HV : Hid (∀ W, RdS W n (l.at s.i) t → Calls Try.prog 141 #[.pointer (some ⟨n, 0, none⟩)] W fun e w' => e = .returned (.tuple #[.int .i64 0, .int .i64 0]) ∧ W.grownBy w' none) := fun W hr => (value_s hr).mono fun e w' hh => ⟨by rw [hh.1, hv], hh.2⟩
  have HW := Lib.hid hwrong_any
  have H1 := Lib.hid h1
  have HR := Lib.hid hr
  have HG' := Lib.hid hG'
  clear h1 hr h2 h3 h4 hG hl ht hk hG' hT hv hn
  go_enter Try.func136, Try.ntmps136
  go_wp2_with fail
  refine (HC.out _ HR.out).mono ?_
  rintro e1 w1 ⟨rfl, hr, hg⟩
  have HR1 := Lib.hid hr
  have HG1 := Lib.hid hg
  have h2 := H1.out.kept hg (some_ne (Ne.symm hne))
  have hd8 := h2.c8
  have H2 := Lib.hid h2
  clear hr hg h2
  go_wp2_with fail
  refine (HV.out _ HR1.out).mono ?_
  rintro e1 w2 ⟨rfl, hg⟩
  have HG2 := Lib.hid hg
  have H3 := Lib.hid (H2.out.kept hg (by simp))
  clear hg
  go_wp2_with fail
  refine (HW.out _ _ _ _ _ _ _ _ _ _ _ _ _ _ H3.out _).mono ?_
  rintro e1 w3 ⟨rfl, h3, hg⟩
  have HG3 := Lib.hid hg
  have H4 := Lib.hid h3
  clear h3 hg
  go_wp2
  go_ret
  exact ⟨n, rfl, ⟨HG'.out, _, 4, x, H4.out, fun h => absurd h (by show ¬ (5 : Nat) = 3; decide), fun h => absurd h (by show ¬ (5 : Nat) ≤ 3; decide), fun _ => rfl⟩, ((Sep.grown HG1.out (.inr rfl)).trans (.grownN HG2.out)).trans (.grown HG3.out (.inl rfl)), .inl rfl⟩
set_option maxHeartbeats 1000000 in
theorem tells_any (k : Int) (w : World) :
    Calls Try.prog 124 #[.int .i64 k] w fun e w' => e = .returned (.bool (!Hd.bits k)) ∧ w = w' := by
  by_cases h1 : k = 1
  · subst h1
    have X := Lib.hid (show (!Hd.bits 1) = false by decide)
    go_enter Try.func124, Try.ntmps124
    go_wp2
    go_ret
    exact ⟨ret_b X.out.symm, rfl⟩
  by_cases h4 : k = 4
  · subst h4
    have X := Lib.hid (show (!Hd.bits 4) = false by decide)
    go_enter Try.func124, Try.ntmps124
    go_wp2
    go_ret
    exact ⟨ret_b X.out.symm, rfl⟩
  · have X := Lib.hid (show (!Hd.bits k) = true by unfold Hd.bits; rw [decide_eq_false (by omega)]; rfl)
    have k1 : (k != 1) = true := by simpa using h1
    have k4 : (k != 4) = true := by simpa using h4
    go_enter Try.func124, Try.ntmps124
    go_wp2
    go_ret
    exact ⟨ret_b X.out.symm, rfl⟩
set_option maxHeartbeats 1000000 in
theorem numbers_any (k : Int) (w : World) :
    Calls Try.prog 142 #[.int .i64 k] w fun e w' => e = .returned (.int .i64 (Hd.many k : Nat)) ∧ w = w' := by
  have HT := Lib.hid (tells_any k)
  cases hb : Hd.bits k with
  | true =>
    have X := Lib.hid (show Hd.many k = 2 by unfold Hd.many; rw [if_pos hb])
    rw [hb] at HT
    go_enter Try.func142, Try.ntmps142
    go_wp2_with (go_at_call 124; refine (HT.out _).mono ?_; rintro e w1 ⟨rfl, rfl⟩)
    go_ret
    exact ⟨by rw [X.out]; rfl, rfl⟩
  | false =>
    have X := Lib.hid (show Hd.many k = 3 by unfold Hd.many; rw [if_neg (by rw [hb]; simp)])
    rw [hb] at HT
    go_enter Try.func142, Try.ntmps142
    go_wp2_with (go_at_call 124; refine (HT.out _).mono ?_; rintro e w1 ⟨rfl, rfl⟩)
    go_ret
    exact ⟨by rw [X.out]; rfl, rfl⟩
end Go.Proofs.Ytldhhhmihfcalaa

/- How many bytes the raster of a head has, by head and by the document, over any memory. Condition: the head may be. -/
namespace Go.Proofs.Ytldhhhmihfcalaa
open Go.RowKit
set_option linter.unusedVariables false

theorem Hj.bound3 {a b c : Int} (a0 : 1 ≤ a) (a1 : a ≤ 4096) (b0 : 1 ≤ b) (b1 : b ≤ 65536) (c0 : 1 ≤ c) (c1 : c ≤ 3) : 0 ≤ a * b ∧ a * b ≤ 268435456 ∧ 0 ≤ a * b * c ∧ a * b * c ≤ 805306368 := by
  have h1 : 0 ≤ a * b := Int.mul_nonneg (by omega) (by omega)
  have h2 : a * b ≤ 4096 * 65536 := Int.mul_le_mul a1 b1 (by omega) (by omega)
  have h3 : 0 ≤ a * b * c := Int.mul_nonneg h1 (by omega)
  have h4 : a * b * c ≤ (4096 * 65536) * 3 := Int.mul_le_mul h2 c1 (by omega) (by omega)
  omega
theorem field0_run (c m : Int) (W : World) : (Instr.field 137 (.agg #[.int .i64 c, .int .i64 m]) 0).run Try.prog W = .ok (.int .i64 c) W := by kernel_rfl
theorem Hj.size_small {h : Hd.H} (hk : h.kd < 4) : Hj.size h = 0 := by unfold Hj.size; rw [if_pos hk]
theorem Hj.size_4 {h : Hd.H} (hk : h.kd = 4) : Hj.size h = h.h * ((h.w + 7) / 8) := by unfold Hj.size; rw [if_neg (by omega), if_pos hk]
theorem Hj.size_5 {h : Hd.H} (hk : 4 < h.kd) : Hj.size h = h.w * h.h * Hj.chan h * (if 255 < h.m then 2 else 1) := by unfold Hj.size; rw [if_neg (by omega), if_neg (by omega)]
set_option maxRecDepth 100000 in
set_option maxHeartbeats 2000000 in
theorem hsize_any (h : Hd.H) (hm : Hd.May h) (w : World) :
    Calls Try.prog 69 #[agH h] w fun e w' => e = .returned (.int .i64 (Hj.size h)) ∧ Below w.heap.size w w' := by
  have HF := Lib.hid (hformat_any h hm)
  have HR := Lib.hid (hraw_any h hm)
  obtain ⟨kd, ww, hh, m⟩ := h
  obtain ⟨⟨a1, a2⟩, ⟨b1, b2⟩, ⟨c1, c2⟩, ⟨d1, d2⟩, _⟩ := hm
  simp only at a1 a2 b1 b2 c1 c2 d1 d2
  unfold agH at HF HR ⊢
  by_cases k3 : kd < 4
  · have X := Lib.hid (Hj.size_small (h := ⟨kd, ww, hh, m⟩) k3)
    simp only [decide_eq_false (show ¬ 3 < kd by omega)] at HR
    clear HF
    go_enter Try.func69, Try.ntmps69
    go_wp2_with (go_at_call 103; refine (HR.out _).mono ?_; rintro e w9 ⟨rfl, hb9⟩)
    go_ret
    exact ⟨Ar.ret_i X.out.symm, ((Below.refl _ w).alloc (Nat.le_refl _) _).trans (hb9.mono (by simp))⟩
  simp only [decide_eq_true (show 3 < kd by omega)] at HR
  by_cases k4 : kd = 4
  · have X := Lib.hid (Hj.size_4 (h := ⟨kd, ww, hh, m⟩) k4)
    subst k4
    simp only at X
    obtain ⟨q, hq⟩ : ∃ q, (ww + 7) / 8 = q := ⟨_, rfl⟩
    have q0 : 0 ≤ q := by omega
    have q1 : q ≤ 512 := by omega
    have p0 : 0 ≤ hh * q := Int.mul_nonneg (by omega) q0
    have p1 : hh * q ≤ 65536 * 512 := Int.mul_le_mul c2 q1 q0 (by omega)
    have e1 : wrap64 (ww + 7) = ww + 7 := by rw [IntWalk.wrap64_in] <;> omega
    have f1 : IntKind.i64.wrap (ww + 7) = ww + 7 := by rw [IntWalk.i64_in] <;> omega
    have e3 : (ww + 7).tdiv 8 = q := by rw [Int.tdiv_eq_ediv_of_nonneg (by omega)]; exact hq
    rw [hq] at X
    obtain ⟨r, hr⟩ : ∃ r, hh * q = r := ⟨_, rfl⟩
    rw [hr] at p0 p1 X
    have e2 : wrap64 (hh * q) = r := by rw [hr, IntWalk.wrap64_in] <;> omega
    have f2 : IntKind.i64.wrap (hh * q) = r := by rw [hr, IntWalk.i64_in] <;> omega
    have e4 : wrap64 q = q := by rw [IntWalk.wrap64_in] <;> omega
    clear HF hr p0 p1 hq
    go_enter Try.func69, Try.ntmps69
    go_wp2_with fail
    refine (HR.out _).mono ?_
    rintro e w9 ⟨rfl, hb9⟩
    obtain ⟨n0, n1, n2, n3⟩ := ((Hb.new w 51 ⟨4, ww, hh, m⟩).later hb9).cells
    go_wp2
    go_ret
    exact ⟨Ar.ret_i X.out.symm, ((Below.refl _ w).alloc (Nat.le_refl _) _).trans (hb9.mono (by simp))⟩
  · have X := Lib.hid (Hj.size_5 (h := ⟨kd, ww, hh, m⟩) (show 4 < kd by omega))
    simp only at X
    unfold Hj.fm at HF
    obtain ⟨c, hc⟩ : ∃ c, Hj.chan ⟨kd, ww, hh, m⟩ = c := ⟨_, rfl⟩
    have hcc := Hj.chan_at ⟨kd, ww, hh, m⟩
    rw [hc] at HF X hcc
    obtain ⟨t0, t1, t2, t3⟩ := Hj.bound3 (c := c) b1 b2 c1 c2 (by omega) (by omega)
    obtain ⟨r, hr⟩ : ∃ r, ww * hh = r := ⟨_, rfl⟩
    rw [hr] at t0 t1 t2 t3 X
    obtain ⟨s, hs⟩ : ∃ s, r * c = s := ⟨_, rfl⟩
    rw [hs] at t2 t3 X
    have f1 : IntKind.i64.wrap (ww * hh) = r := by rw [hr, IntWalk.i64_in] <;> omega
    have f2 : IntKind.i64.wrap (r * c) = s := by rw [hs, IntWalk.i64_in] <;> omega
    have g1 : wrap64 (ww * hh) = r := by rw [hr, IntWalk.wrap64_in] <;> omega
    have g2 : wrap64 (r * c) = s := by rw [hs, IntWalk.wrap64_in] <;> omega
    have g3 : wrap64 (s * 2) = s * 2 := by rw [IntWalk.wrap64_in] <;> omega
    have k4b : (kd == 4) = false := by simpa using k4
    have hfd := field0_run c m
    have hBt : Below w.heap.size w w := .refl _ _
    clear hc hcc hr hs t0 t1 k3 a1 a2 b1 b2 c1 c2 k4
    go_enter Try.func69, Try.ntmps69
    go_wp2_with fail
    refine (HR.out _).mono ?_
    rintro e w9 ⟨rfl, hb9⟩
    obtain ⟨n0, n1, n2, n3⟩ := ((Hb.new w 51 ⟨kd, ww, hh, m⟩).later hb9).cells
    have HBz := Lib.hid (((hBt).alloc (Nat.le_refl _) (.cells #[.int .i64 kd, .int .i64 ww, .int .i64 hh, .int .i64 m] 51)).trans (hb9.mono (by simp)))
    have hBr : Below w9.heap.size w9 w9 := .refl _ _
    clear hb9 hBt
    go_wp2_with fail
    go_cut [3] (fun s3 wx => s3 = .int .i64 s ∧ Below w9.heap.size w9 wx)
    case first =>
      go_region_held3 (fun w' => w'.cell? ⟨w.heap.size, 0, none⟩ = some (.int .i64 kd) ∧ w'.cell? ⟨w.heap.size, 1, none⟩ = some (.int .i64 ww) ∧ w'.cell? ⟨w.heap.size, 2, none⟩ = some (.int .i64 hh) ∧ w'.cell? ⟨w.heap.size, 3, none⟩ = some (.int .i64 m))
        (first | exact ⟨n0, n1, n2, n3⟩ | exact ⟨cell_later hBr n0, cell_later hBr n1, cell_later hBr n2, cell_later hBr n3⟩)
        (first | (go_at_call 87; refine (HF.out _).mono ?_; rintro e w8 ⟨rfl, hb8⟩; replace hBr := bel_step (w := w9) (by first | exact hBr | exact hBr.drew) hb8))
      all_goals
        go_wp2_with fail
        go_meet
        case rel => exact ⟨rfl, hBr⟩
    case rest =>
      obtain ⟨rfl, hBx⟩ := hcut
      have m3 := cell_later hBx n3
      have HBy := Lib.hid (HBz.out.trans (hBx.mono HBz.out.size))
      clear n0 n1 n2 n3 hBr hBx
      by_cases hm2 : 255 < m
      · have X2 : Hid (Hj.size ⟨kd, ww, hh, m⟩ = s * 2) := by show _ = _; rw [X.out, if_pos hm2]
        go_wp2
        go_ret
        exact ⟨Ar.ret_i X2.out.symm, HBy.out⟩
      · have X2 : Hid (Hj.size ⟨kd, ww, hh, m⟩ = s) := by show _ = _; rw [X.out, if_neg hm2, Int.mul_one]
        go_wp2
        go_ret
        exact ⟨Ar.ret_i X2.out.symm, HBy.out⟩
end Go.Proofs.Ytldhhhmihfcalaa

/- When two lists of numbers are the same, by the document's own answer, over any memory; and its example. Condition: a length fits an int. -/
namespace Go.Proofs.Ytldhhhmihfcalaa
open Go.RowKit
set_option linter.unusedVariables false
namespace Pq
/-- two lists are the same up to k -/
def Alike (x y : List Int) (k : Nat) : Prop := ∀ i, i < k → x.getD i 0 = y.getD i 0
theorem alike_all {x y : List Int} {n : Nat} (hx : x.length = n) (hy : y.length = n) (h : Alike x y n) : x = y := by
  refine List.ext_getElem (by rw [hx, hy]) fun i h1 h2 => ?_
  have := h i (by omega)
  rw [List.getD_eq_getElem?_getD, List.getD_eq_getElem?_getD, List.getElem?_eq_getElem h1, List.getElem?_eq_getElem h2] at this
  simpa using this
theorem alike_succ {x y : List Int} {k : Nat} (h : Alike x y k) (e : x.getD k 0 = y.getD k 0) : Alike x y (k + 1) := fun i hi => by
  rcases Nat.lt_or_ge i k with h1 | h1
  · exact h i h1
  · obtain rfl : i = k := by omega
    exact e

end Pq
end Go.Proofs.Ytldhhhmihfcalaa

/- What a law's walk is told of a slice of integers that came in, and what follows of it. No condition. -/
namespace Go.Proofs.Ytldhhhmihfcalaa
open Go.RowKit
set_option linter.unusedVariables false
namespace Pq
/-- It is nil; or it leads to a row of 'cap' cells, the numbers 'zs' (the first 'len' are its elements), each fitting its kind. -/
def IsRow (k : IntKind) (w : World) (a : Option Addr) (len cap : Nat) (zs : List Int) : Prop :=
  (a = none ∧ len = 0 ∧ cap = 0 ∧ zs = []) ∨
  ∃ x, a = some x ∧ len ≤ cap ∧ cap ≤ maxLen ∧ zs.length = cap ∧ (∀ i, i < zs.length → w.cell? (x.add i) = some (.int k (zs.getD i 0))) ∧ ∀ n ∈ zs, (Lit.int k n).wf = true
theorem isrow_len {k : IntKind} {w : World} {a : Option Addr} {len cap : Nat} {zs : List Int} (h : IsRow k w a len cap zs) : len ≤ 9223372036854775807 ∧ len ≤ zs.length ∧ len ≤ cap ∧ cap ≤ 9223372036854775807 := by
  rcases h with ⟨_, rfl, rfl, rfl⟩ | ⟨x, _, h1, h2, h3, _⟩
  · simp
  · unfold maxLen at h2; omega
/-- the first n elements, as a slice -/
theorem isrow_take {w : World} {a : Option Addr} {len cap : Nat} {zs : List Int} (h : IsRow .i64 w a len cap zs) (n : Nat) (hn : n ≤ len) : Sl w a n (zs.take n) := by
  have hl := isrow_len h
  refine ⟨by rw [List.length_take]; omega, ?_⟩
  rcases h with ⟨_, rfl, _, _⟩ | ⟨⟨b, o, sp⟩, rfl, h1, h2, h3, h4, _⟩
  · exact .inl (by omega)
  · by_cases h0 : n = 0
    · exact .inl h0
    · have hc := h4 0 (by omega)
      have hsp : sp = none := by simpa [Addr.add] using World.cell?_spot hc
      subst hsp
      refine .inr ⟨b, o, rfl, fun i hi => ?_⟩
      rw [← addr_add, h4 i (by omega)]
      simp [List.getD_eq_getElem?_getD, List.getElem?_take_of_lt hi]
theorem isrow_wf {w : World} {a : Option Addr} {len cap : Nat} {zs : List Int} (h : IsRow .i64 w a len cap zs) : ∀ n ∈ zs, Px.I n := by
  rcases h with ⟨_, _, _, rfl⟩ | ⟨x, _, _, _, _, _, h5⟩
  · intro n hn; cases hn
  · intro n hn
    have h := h5 n hn
    unfold Px.I
    simp [Lit.wf, IntKind.min, IntKind.max, IntKind.bits, IntKind.signed] at h
    omega
theorem wf_u {n : Int} (h : (Lit.int .u64 n).wf = true) : Px.U n := by
  unfold Px.U
  simp [Lit.wf, IntKind.min, IntKind.max, IntKind.bits, IntKind.signed] at h
  omega
theorem wf_i {n : Int} (h : (Lit.int .i64 n).wf = true) : Px.I n := by
  unfold Px.I
  simp [Lit.wf, IntKind.min, IntKind.max, IntKind.bits, IntKind.signed] at h
  omega
end Pq
end Go.Proofs.Ytldhhhmihfcalaa

/- A reader of a head is told a byte of a number, over any memory. Condition: its limits are such as may be. -/
import Derived.Test.YtkphfpckkmendaaHedB
namespace Go.Proofs.Ytkphfpckkmendaa
open Go.RowKit
set_option linter.unusedVariables false

theorem Tk.val_over {m : Int} {t : Tk.S} (h : Tk.Good m t) (hk : t.k = 4) : Tk.val t = (t.n, 0) := by unfold Tk.val; rw [if_pos (h.2.2.2.2.1 hk)]
theorem Tk.val_wrong {m : Int} {t : Tk.S} (h : Tk.Good m t) (hk : t.k = 5) : Tk.val t = (0, t.e) := by
  have := h.2.2.2.2.2.1 hk
  unfold Tk.val; rw [if_neg (by omega)]
theorem Tk.st_over {t : Tk.S} (hk : t.k = 4) : Tk.st t = 1 := by unfold Tk.st; rw [if_pos hk]
theorem Tk.st_wrong {t : Tk.S} (hk : t.k = 5) : Tk.st t = 2 := by unfold Tk.st; rw [if_neg (by omega), if_pos hk]
theorem Tk.st_more {t : Tk.S} (hk : t.k ≤ 3) : Tk.st t = 0 := by unfold Tk.st; rw [if_neg (by omega), if_neg (by omega)]
theorem some_ne {a b : Nat} (h : a ≠ b) : some a ≠ some b := by intro e; injection e with e; exact h e
/-- told a byte with which its number goes on -/
def TokC (l : Hd.L) (s : Hd.S) (n : Nat) (c : Int) (t : Tk.S) (q : Int) : Prop :=
  ∀ W, RdS W n (l.at s.i) s.t → Calls Try.prog 38 #[.pointer (some ⟨n, 0, none⟩), .int .u8 c] W fun e w' => e = .returned (.int .i64 q) ∧ RdS w' n (l.at s.i) t ∧ W.grownBy w' (some n)
theorem tokC {l : Hd.L} {s : Hd.S} {n : Nat} {c : Int} {t : Tk.S} {q : Int} (hG : Tk.Good (l.at s.i) s.t) (hl : l.Ok) (c0 : 0 ≤ c) (c1 : c ≤ 255) (ht : Tk.put (l.at s.i) s.t c = t) (hq : Tk.st t = q) : TokC l s n c t q := by
  intro W hr
  have h := (put_both hG (by have := Hd.L.at_ok hl s.i; omega) c c0 c1).1 W n hr
  rw [ht] at h
  refine h.mono ?_
  rintro e w' ⟨h1, h2, h3⟩
  exact ⟨by rw [h1, hq], h2, h3⟩
set_option maxHeartbeats 2000000 in
theorem in_more {l : Hd.L} (hl : l.Ok) {s : Hd.S} (hG : Hd.Good l s) (hp : s.p = 3) (c : Int) (c0 : 0 ≤ c) (c1 : c ≤ 255) (t : Tk.S) (ht : Tk.put (l.at s.i) s.t c = t) (hk : t.k ≤ 3) (w : World) (b n : Nat) (h : HdX 0 w b n l s) :
    Calls Try.prog 36 #[.pointer (some ⟨b, 0, none⟩), .int .u8 c] w (InR w b n l (s.tok t)) := by
  have hG' := Hd.good_take hl (hG.2.2.2.2.1 (by omega) (by omega)) (hG.2.2.2.2.2.1 (by omega)) (Tk.good_put (hG.2.1 (by omega)).1 c)
  rw [ht, show Hd.take s t = s.tok t by unfold Hd.take; rw [if_neg (by omega), if_neg (by omega)]] at hG'
  obtain ⟨_, nv, f, x, h1, h2, h3, h4⟩ := h
  obtain ⟨rfl, hr, hne⟩ := h2 hp
  have hx := h3 (by omega)
  rw [hp] at hx
  have hc8 := h1.c8
  have HC := Lib.hid (tokC (n := n) (hG.2.1 (by omega)).1 hl c0 c1 ht (Tk.st_more hk))
  have H1 := Lib.hid h1
  have HR := Lib.hid hr
  have HG' := Lib.hid hG'
  have HX := Lib.hid hx
  clear h1 hr h2 h3 h4 hG hl ht hk hG' hx
  go_enter Try.func36, Try.ntmps36
  go_wp2_with (go_at_call 38; refine (HC.out _ HR.out).mono ?_; rintro e w1 ⟨rfl, hr, hg⟩; have HR1 := Lib.hid hr; have HG1 := Lib.hid hg; clear hr hg)
  go_ret
  exact ⟨n, rfl, ⟨HG'.out, _, f, x, H1.out.kept HG1.out (some_ne (Ne.symm hne)), fun _ => ⟨rfl, HR1.out, hne⟩, fun _ => HX.out, fun h => absurd h (by show ¬ (3 : Nat) = 5; decide)⟩, .grown HG1.out (.inr rfl), .inl rfl⟩
set_option maxHeartbeats 2000000 in
theorem in_wrong {l : Hd.L} (hl : l.Ok) {s : Hd.S} (hG : Hd.Good l s) (hp : s.p = 3) (c : Int) (c0 : 0 ≤ c) (c1 : c ≤ 255) (t : Tk.S) (ht : Tk.put (l.at s.i) s.t c = t) (hk : t.k = 5) (w : World) (b n : Nat) (h : HdX 0 w b n l s) :
    Calls Try.prog 36 #[.pointer (some ⟨b, 0, none⟩), .int .u8 c] w (InR w b n l (s.wrong t.e)) := by
  have hT := Tk.good_put (hG.2.1 (by omega)).1 c
  rw [ht] at hT
  have hG' : Hd.Good l (s.wrong t.e) := Hd.good_wrong (by have := hG.2.2.2.2.2.2.2; omega) (.inr (hT.2.2.2.2.2.1 hk))
  have hv := Tk.val_wrong hT hk
  have hz : (t.e != 0) = true := by have := hT.2.2.2.2.2.1 hk; simp; omega
  obtain ⟨_, nv, f, x, h1, h2, h3, h4⟩ := h
  obtain ⟨rfl, hr, hne⟩ := h2 hp
  have hc8 := h1.c8
  have HC := Lib.hid (tokC (n := n) (hG.2.1 (by omega)).1 hl c0 c1 ht (Tk.st_wrong hk))
  have HV : Hid (∀ W, RdS W n (l.at s.i) t → Calls Try.prog 39 #[.pointer (some ⟨n, 0, none⟩)] W fun e w' => e = .returned (.tuple #[.int .i64 0, .int .i64 t.e]) ∧ W.grownBy w' none) := fun W hr => (value_s hr).mono fun e w' hh => ⟨by rw [hh.1, hv], hh.2⟩
  have HW := Lib.hid hwrong_any
  have H1 := Lib.hid h1
  have HR := Lib.hid hr
  have HG' := Lib.hid hG'
  clear h1 hr h2 h3 h4 hG hl ht hk hG' hT hv
  obtain ⟨e, he⟩ : ∃ e, t.e = e := ⟨_, rfl⟩
  rw [he] at HV HG' hz ⊢
  go_enter Try.func36, Try.ntmps36
  go_wp2_with fail
  refine (HC.out _ HR.out).mono ?_
  rintro e1 w1 ⟨rfl, hr, hg⟩
  have HR1 := Lib.hid hr
  have HG1 := Lib.hid hg
  have h2 := H1.out.kept hg (some_ne (Ne.symm hne))
  have hd8 := h2.c8
  have H2 := Lib.hid h2
  clear hr hg h2
  go_wp2_with fail
  refine (HV.out _ HR1.out).mono ?_
  rintro e1 w2 ⟨rfl, hg⟩
  have HG2 := Lib.hid hg
  have H3 := Lib.hid (H2.out.kept hg (by simp))
  clear hg
  go_wp2_with fail
  refine (HW.out _ _ _ _ _ _ _ _ _ _ _ _ _ _ H3.out _).mono ?_
  rintro e1 w3 ⟨rfl, h3, hg⟩
  have HG3 := Lib.hid hg
  have H4 := Lib.hid h3
  clear h3 hg
  go_wp2
  go_ret
  exact ⟨n, rfl, ⟨HG'.out, _, e, x, H4.out, fun h => absurd h (by show ¬ (5 : Nat) = 3; decide), fun h => absurd h (by show ¬ (5 : Nat) ≤ 3; decide), fun _ => rfl⟩, ((Sep.grown HG1.out (.inr rfl)).trans (.grownN HG2.out)).trans (.grown HG3.out (.inl rfl)), .inl rfl⟩
set_option maxHeartbeats 2000000 in
theorem in_zero {l : Hd.L} (hl : l.Ok) {s : Hd.S} (hG : Hd.Good l s) (hp : s.p = 3) (c : Int) (c0 : 0 ≤ c) (c1 : c ≤ 255) (t : Tk.S) (ht : Tk.put (l.at s.i) s.t c = t) (hk : t.k = 4) (hn : t.n = 0) (w : World) (b n : Nat) (h : HdX 0 w b n l s) :
    Calls Try.prog 36 #[.pointer (some ⟨b, 0, none⟩), .int .u8 c] w (InR w b n l (s.wrong 4)) := by
  have hT := Tk.good_put (hG.2.1 (by omega)).1 c
  rw [ht] at hT
  have hG' : Hd.Good l (s.wrong 4) := Hd.good_wrong (by have := hG.2.2.2.2.2.2.2; omega) (.inr (.inr rfl))
  have hv := Tk.val_over hT hk
  rw [hn] at hv
  obtain ⟨_, nv, f, x, h1, h2, h3, h4⟩ := h
  obtain ⟨rfl, hr, hne⟩ := h2 hp
  have hc8 := h1.c8
  have HC := Lib.hid (tokC (n := n) (hG.2.1 (by omega)).1 hl c0 c1 ht (Tk.st_over hk))
  have HV : Hid (∀ W, RdS W n (l.at s.i) t → Calls Try.prog 39 #[.pointer (some ⟨n, 0, none⟩)] W fun e w' => e = .returned (.tuple #[.int .i64 0, .int .i64 0]) ∧ W.grownBy w' none) := fun W hr => (value_s hr).mono fun e w' hh => ⟨by rw [hh.1, hv], hh.2⟩
  have HW := Lib.hid hwrong_any
  have H1 := Lib.hid h1
  have HR := Lib.hid hr
  have HG' := Lib.hid hG'
  clear h1 hr h2 h3 h4 hG hl ht hk hG' hT hv hn
  go_enter Try.func36, Try.ntmps36
  go_wp2_with fail
  refine (HC.out _ HR.out).mono ?_
  rintro e1 w1 ⟨rfl, hr, hg⟩
  have HR1 := Lib.hid hr
  have HG1 := Lib.hid hg
  have h2 := H1.out.kept hg (some_ne (Ne.symm hne))
  have hd8 := h2.c8
  have H2 := Lib.hid h2
  clear hr hg h2
  go_wp2_with fail
  refine (HV.out _ HR1.out).mono ?_
  rintro e1 w2 ⟨rfl, hg⟩
  have HG2 := Lib.hid hg
  have H3 := Lib.hid (H2.out.kept hg (by simp))
  clear hg
  go_wp2_with fail
  refine (HW.out _ _ _ _ _ _ _ _ _ _ _ _ _ _ H3.out _).mono ?_
  rintro e1 w3 ⟨rfl, h3, hg⟩
  have HG3 := Lib.hid hg
  have H4 := Lib.hid h3
  clear h3 hg
  go_wp2
  go_ret
  exact ⟨n, rfl, ⟨HG'.out, _, 4, x, H4.out, fun h => absurd h (by show ¬ (5 : Nat) = 3; decide), fun h => absurd h (by show ¬ (5 : Nat) ≤ 3; decide), fun _ => rfl⟩, ((Sep.grown HG1.out (.inr rfl)).trans (.grownN HG2.out)).trans (.grown HG3.out (.inl rfl)), .inl rfl⟩
set_option maxHeartbeats 1000000 in
theorem tells_any (k : Int) (w : World) :
    Calls Try.prog 42 #[.int .i64 k] w fun e w' => e = .returned (.bool (!Hd.bits k)) ∧ w = w' := by
  by_cases h1 : k = 1
  · subst h1
    have X := Lib.hid (show (!Hd.bits 1) = false by decide)
    go_enter Try.func42, Try.ntmps42
    go_wp2
    go_ret
    exact ⟨ret_b X.out.symm, rfl⟩
  by_cases h4 : k = 4
  · subst h4
    have X := Lib.hid (show (!Hd.bits 4) = false by decide)
    go_enter Try.func42, Try.ntmps42
    go_wp2
    go_ret
    exact ⟨ret_b X.out.symm, rfl⟩
  · have X := Lib.hid (show (!Hd.bits k) = true by unfold Hd.bits; rw [decide_eq_false (by omega)]; rfl)
    have k1 : (k != 1) = true := by simpa using h1
    have k4 : (k != 4) = true := by simpa using h4
    go_enter Try.func42, Try.ntmps42
    go_wp2
    go_ret
    exact ⟨ret_b X.out.symm, rfl⟩
set_option maxHeartbeats 1000000 in
theorem numbers_any (k : Int) (w : World) :
    Calls Try.prog 40 #[.int .i64 k] w fun e w' => e = .returned (.int .i64 (Hd.many k : Nat)) ∧ w = w' := by
  have HT := Lib.hid (tells_any k)
  cases hb : Hd.bits k with
  | true =>
    have X := Lib.hid (show Hd.many k = 2 by unfold Hd.many; rw [if_pos hb])
    rw [hb] at HT
    go_enter Try.func40, Try.ntmps40
    go_wp2_with (go_at_call 42; refine (HT.out _).mono ?_; rintro e w1 ⟨rfl, rfl⟩)
    go_ret
    exact ⟨by rw [X.out]; rfl, rfl⟩
  | false =>
    have X := Lib.hid (show Hd.many k = 3 by unfold Hd.many; rw [if_neg (by rw [hb]; simp)])
    rw [hb] at HT
    go_enter Try.func40, Try.ntmps40
    go_wp2_with (go_at_call 42; refine (HT.out _).mono ?_; rintro e w1 ⟨rfl, rfl⟩)
    go_ret
    exact ⟨by rw [X.out]; rfl, rfl⟩
end Go.Proofs.Ytkphfpckkmendaa

/- A reader of a head is told the byte that ends a number, over any memory. Condition: its limits are such as may be. -/
import Derived.Test.YtooilemglmndeaaGreatZgAC
import Derived.Deep.QuietTactic
namespace Go.Proofs.YtooilemglmndeaaGreat
open Go.RowKit
set_option linter.unusedVariables false

set_option maxHeartbeats 4000000 in
theorem in_num02 {l : Hd.L} (hl : l.Ok) (kd v0 v1 v2 er : Int) (u : Tk.S) (hG : Hd.Good l ⟨3, kd, 0, v0, v1, v2, u, er⟩) (hm : Hd.many kd = 2) (c : Int) (c0 : 0 ≤ c) (c1 : c ≤ 255) (t : Tk.S) (ht : Tk.put (l.at 0) u c = t) (hk : t.k = 4) (hn : t.n ≠ 0) (w : World) (b n : Nat) (h : HdX 0 w b n l ⟨3, kd, 0, v0, v1, v2, u, er⟩) :
    Calls Tryz.prog 211 #[.pointer (some ⟨b, 0, none⟩), .int .u8 c] w (InR w b n l (Hd.S.num ⟨3, kd, 0, v0, v1, v2, u, er⟩ t.n)) := by
  have hT := Tk.good_put (hG.2.1 (Nat.le_refl 3)).1 c
  have hG' := Hd.good_take hl (hG.2.2.2.2.1 (Nat.le_succ 2) (Nat.le_succ 3)) (hG.2.2.2.2.2.1 (Nat.le_refl 3)) hT
  rw [show Tk.put (l.at 0) u c = t from ht] at hT
  rw [show Tk.put _ _ c = t from ht, show Hd.take ⟨3, kd, 0, v0, v1, v2, u, er⟩ t = Hd.S.num ⟨3, kd, 0, v0, v1, v2, u, er⟩ t.n by unfold Hd.take; rw [if_neg (by omega), if_pos hk, if_neg hn]] at hG'
  have hv := Tk.val_over hT hk
  have hz : (t.n == 0) = false := by simpa using hn
  obtain ⟨_, nv, f, x, h1, h2, h3, h4⟩ := h
  obtain ⟨rfl, hr, hne⟩ := h2 rfl
  have hx := h3 (Nat.le_refl 3)
  have h1' : HdC w b kd l.m0 l.m1 l.m2 v0 v1 v2 0 (.pointer (some ⟨n, 0, none⟩)) 0 f x := h1
  have hc8 := h1'.c8
  have HC := Lib.hid (tokC (n := n) (hG.2.1 (Nat.le_refl 3)).1 hl c0 c1 ht (Tk.st_over hk))
  have HV : Hid (∀ W, RdS W n (l.at 0) t → Calls Tryz.prog 220 #[.pointer (some ⟨n, 0, none⟩)] W fun e w' => e = .returned (.tuple #[.int .i64 t.n, .int .i64 0]) ∧ W.grownBy w' none) := fun W hr => (value_s hr).mono fun e w' hh => ⟨by rw [hh.1, hv], hh.2⟩
  have HN : Hid (∀ W, Calls Tryz.prog 221 #[.int .i64 kd] W fun e w' => e = .returned (.int .i64 2) ∧ W = w') := fun W => by have := numbers_any kd W; rw [hm] at this; exact this
  have HR := Lib.hid (show RdS w n (l.at 0) u from hr)
  have HX := Lib.hid hx
  unfold Hd.S.num at hG' ⊢
  rw [hm] at hG' ⊢
  obtain ⟨k, hkk⟩ : ∃ k, t.n = k := ⟨_, rfl⟩
  rw [hkk] at HV hz hG' ⊢
  have HG' : Hid (Hd.Good l ⟨3, kd, 1, k, v1, v2, Tk.new, er⟩) := hG'
  show Calls _ _ _ _ (InR w b n l ⟨3, kd, 1, k, v1, v2, Tk.new, er⟩)
  have HB := Lib.hid (fun W x nv h => hbegin1_any W b kd l.m0 l.m1 l.m2 k v1 v2 nv 0 f x h (by have := Hd.L.at_ok hl 1; unfold Hd.L.at at this; simp at this; omega))
  have H1 := Lib.hid h1'
  have hblt := h1'.lt
  clear h1 h1' hr h2 h3 h4 hG hl ht hk hG' hT hv hn hm hx
  go_enter Tryz.func211, Tryz.ntmps211
  go_wp2_with fail
  refine (HC.out _ HR.out).mono ?_
  rintro e1 w1 ⟨rfl, hr, hg⟩
  have HR1 := Lib.hid hr
  have HG1 := Lib.hid hg
  have h2 := H1.out.kept hg (some_ne (Ne.symm hne))
  have hd8 := h2.c8
  have H2 := Lib.hid h2
  clear hr hg h2 hc8
  go_wp2_with fail
  refine (HV.out _ HR1.out).mono ?_
  rintro e1 w2 ⟨rfl, hg⟩
  have HG2 := Lib.hid hg
  have h3 := H2.out.kept hg (by simp)
  have e0 := h3.c0
  have e7 := h3.c7
  have eN := h3.c4
  have fr7 := h3.fr 7
  have frN := h3.fr 4
  have hlt2 := h3.lt
  have H4 : Hid (HdC ((w2.setCell ⟨b, 4, none⟩ (.int .i64 k)).setCell ⟨b, 7, none⟩ (.int .i64 1)).drew b kd l.m0 l.m1 l.m2 k v1 v2 1 (.pointer (some ⟨n, 0, none⟩)) 0 f x) := (h3.put4 k).put7 1
  have SEP4 : Hid (Sep (two b n) w2 ((w2.setCell ⟨b, 4, none⟩ (.int .i64 k)).setCell ⟨b, 7, none⟩ (.int .i64 1)).drew) := by
    show Sep _ _ _
    exact ((Sep.setCell w2 (.inl rfl) _).trans (.setCell _ (.inl rfl) _)).trans (.drew _ _)
  clear hg h3 hd8
  go_wp2_with fail
  go_region_with (fail)
  all_goals
    go_wp2_with fail
    generalize ((w2.setCell ⟨b, 4, none⟩ (.int .i64 k)).setCell ⟨b, 7, none⟩ (.int .i64 1)).drew = w4 at H4 SEP4 ⊢
    have q0 := H4.out.c0
    have q7 := H4.out.c7
    have LTB := Lib.hid (show b < w4.heap.size from H4.out.lt)
    have LE5 := Lib.hid (show w.heap.size ≤ w4.heap.size from Nat.le_trans HG1.out.size (Nat.le_trans HG2.out.size SEP4.out.size))
    go_quiet ((go_at_call 221; exact Calls.quiet_of_same ((HN.out _).mono fun e w' hh => ⟨hh.1, hh.2.symm⟩)))
    go_wp2_with fail
    refine (HB.out _ _ _ (H4.out.drewN _)).mono ?_
    rintro e1 w5 ⟨rfl, h5, hr5, hg⟩
    have HG5 := Lib.hid hg
    have H5 := Lib.hid h5
    have HR5 := Lib.hid hr5
    clear hg h5 hr5
    go_wp2
    go_ret
    exact ⟨_, rfl, ⟨HG'.out, _, f, x, H5.out, fun _ => ⟨rfl, HR5.out, Nat.ne_of_gt LTB.out⟩, fun _ => HX.out, fun h => absurd h (show ¬ (3 : Nat) = 5 by decide)⟩, ((((Sep.grown HG1.out (.inr rfl)).trans (.grownN HG2.out)).trans SEP4.out).trans (.drewN _ _ _)).trans (.grown HG5.out (.inl rfl)), .inr LE5.out⟩
set_option maxHeartbeats 4000000 in
theorem in_num03 {l : Hd.L} (hl : l.Ok) (kd v0 v1 v2 er : Int) (u : Tk.S) (hG : Hd.Good l ⟨3, kd, 0, v0, v1, v2, u, er⟩) (hm : Hd.many kd = 3) (c : Int) (c0 : 0 ≤ c) (c1 : c ≤ 255) (t : Tk.S) (ht : Tk.put (l.at 0) u c = t) (hk : t.k = 4) (hn : t.n ≠ 0) (w : World) (b n : Nat) (h : HdX 0 w b n l ⟨3, kd, 0, v0, v1, v2, u, er⟩) :
    Calls Tryz.prog 211 #[.pointer (some ⟨b, 0, none⟩), .int .u8 c] w (InR w b n l (Hd.S.num ⟨3, kd, 0, v0, v1, v2, u, er⟩ t.n)) := by
  have hT := Tk.good_put (hG.2.1 (Nat.le_refl 3)).1 c
  have hG' := Hd.good_take hl (hG.2.2.2.2.1 (Nat.le_succ 2) (Nat.le_succ 3)) (hG.2.2.2.2.2.1 (Nat.le_refl 3)) hT
  rw [show Tk.put (l.at 0) u c = t from ht] at hT
  rw [show Tk.put _ _ c = t from ht, show Hd.take ⟨3, kd, 0, v0, v1, v2, u, er⟩ t = Hd.S.num ⟨3, kd, 0, v0, v1, v2, u, er⟩ t.n by unfold Hd.take; rw [if_neg (by omega), if_pos hk, if_neg hn]] at hG'
  have hv := Tk.val_over hT hk
  have hz : (t.n == 0) = false := by simpa using hn
  obtain ⟨_, nv, f, x, h1, h2, h3, h4⟩ := h
  obtain ⟨rfl, hr, hne⟩ := h2 rfl
  have hx := h3 (Nat.le_refl 3)
  have h1' : HdC w b kd l.m0 l.m1 l.m2 v0 v1 v2 0 (.pointer (some ⟨n, 0, none⟩)) 0 f x := h1
  have hc8 := h1'.c8
  have HC := Lib.hid (tokC (n := n) (hG.2.1 (Nat.le_refl 3)).1 hl c0 c1 ht (Tk.st_over hk))
  have HV : Hid (∀ W, RdS W n (l.at 0) t → Calls Tryz.prog 220 #[.pointer (some ⟨n, 0, none⟩)] W fun e w' => e = .returned (.tuple #[.int .i64 t.n, .int .i64 0]) ∧ W.grownBy w' none) := fun W hr => (value_s hr).mono fun e w' hh => ⟨by rw [hh.1, hv], hh.2⟩
  have HN : Hid (∀ W, Calls Tryz.prog 221 #[.int .i64 kd] W fun e w' => e = .returned (.int .i64 3) ∧ W = w') := fun W => by have := numbers_any kd W; rw [hm] at this; exact this
  have HR := Lib.hid (show RdS w n (l.at 0) u from hr)
  have HX := Lib.hid hx
  unfold Hd.S.num at hG' ⊢
  rw [hm] at hG' ⊢
  obtain ⟨k, hkk⟩ : ∃ k, t.n = k := ⟨_, rfl⟩
  rw [hkk] at HV hz hG' ⊢
  have HG' : Hid (Hd.Good l ⟨3, kd, 1, k, v1, v2, Tk.new, er⟩) := hG'
  show Calls _ _ _ _ (InR w b n l ⟨3, kd, 1, k, v1, v2, Tk.new, er⟩)
  have HB := Lib.hid (fun W x nv h => hbegin1_any W b kd l.m0 l.m1 l.m2 k v1 v2 nv 0 f x h (by have := Hd.L.at_ok hl 1; unfold Hd.L.at at this; simp at this; omega))
  have H1 := Lib.hid h1'
  have hblt := h1'.lt
  clear h1 h1' hr h2 h3 h4 hG hl ht hk hG' hT hv hn hm hx
  go_enter Tryz.func211, Tryz.ntmps211
  go_wp2_with fail
  refine (HC.out _ HR.out).mono ?_
  rintro e1 w1 ⟨rfl, hr, hg⟩
  have HR1 := Lib.hid hr
  have HG1 := Lib.hid hg
  have h2 := H1.out.kept hg (some_ne (Ne.symm hne))
  have hd8 := h2.c8
  have H2 := Lib.hid h2
  clear hr hg h2 hc8
  go_wp2_with fail
  refine (HV.out _ HR1.out).mono ?_
  rintro e1 w2 ⟨rfl, hg⟩
  have HG2 := Lib.hid hg
  have h3 := H2.out.kept hg (by simp)
  have e0 := h3.c0
  have e7 := h3.c7
  have eN := h3.c4
  have fr7 := h3.fr 7
  have frN := h3.fr 4
  have hlt2 := h3.lt
  have H4 : Hid (HdC ((w2.setCell ⟨b, 4, none⟩ (.int .i64 k)).setCell ⟨b, 7, none⟩ (.int .i64 1)).drew b kd l.m0 l.m1 l.m2 k v1 v2 1 (.pointer (some ⟨n, 0, none⟩)) 0 f x) := (h3.put4 k).put7 1
  have SEP4 : Hid (Sep (two b n) w2 ((w2.setCell ⟨b, 4, none⟩ (.int .i64 k)).setCell ⟨b, 7, none⟩ (.int .i64 1)).drew) := by
    show Sep _ _ _
    exact ((Sep.setCell w2 (.inl rfl) _).trans (.setCell _ (.inl rfl) _)).trans (.drew _ _)
  clear hg h3 hd8
  go_wp2_with fail
  go_region_with (fail)
  all_goals
    go_wp2_with fail
    generalize ((w2.setCell ⟨b, 4, none⟩ (.int .i64 k)).setCell ⟨b, 7, none⟩ (.int .i64 1)).drew = w4 at H4 SEP4 ⊢
    have q0 := H4.out.c0
    have q7 := H4.out.c7
    have LTB := Lib.hid (show b < w4.heap.size from H4.out.lt)
    have LE5 := Lib.hid (show w.heap.size ≤ w4.heap.size from Nat.le_trans HG1.out.size (Nat.le_trans HG2.out.size SEP4.out.size))
    go_quiet ((go_at_call 221; exact Calls.quiet_of_same ((HN.out _).mono fun e w' hh => ⟨hh.1, hh.2.symm⟩)))
    go_wp2_with fail
    refine (HB.out _ _ _ (H4.out.drewN _)).mono ?_
    rintro e1 w5 ⟨rfl, h5, hr5, hg⟩
    have HG5 := Lib.hid hg
    have H5 := Lib.hid h5
    have HR5 := Lib.hid hr5
    clear hg h5 hr5
    go_wp2
    go_ret
    exact ⟨_, rfl, ⟨HG'.out, _, f, x, H5.out, fun _ => ⟨rfl, HR5.out, Nat.ne_of_gt LTB.out⟩, fun _ => HX.out, fun h => absurd h (show ¬ (3 : Nat) = 5 by decide)⟩, ((((Sep.grown HG1.out (.inr rfl)).trans (.grownN HG2.out)).trans SEP4.out).trans (.drewN _ _ _)).trans (.grown HG5.out (.inl rfl)), .inr LE5.out⟩
set_option maxHeartbeats 4000000 in
theorem in_num12 {l : Hd.L} (hl : l.Ok) (kd v0 v1 v2 er : Int) (u : Tk.S) (hG : Hd.Good l ⟨3, kd, 1, v0, v1, v2, u, er⟩) (hm : Hd.many kd = 2) (c : Int) (c0 : 0 ≤ c) (c1 : c ≤ 255) (t : Tk.S) (ht : Tk.put (l.at 1) u c = t) (hk : t.k = 4) (hn : t.n ≠ 0) (w : World) (b n : Nat) (h : HdX 0 w b n l ⟨3, kd, 1, v0, v1, v2, u, er⟩) :
    Calls Tryz.prog 211 #[.pointer (some ⟨b, 0, none⟩), .int .u8 c] w (InR w b n l (Hd.S.num ⟨3, kd, 1, v0, v1, v2, u, er⟩ t.n)) := by
  have hT := Tk.good_put (hG.2.1 (Nat.le_refl 3)).1 c
  have hG' := Hd.good_take hl (hG.2.2.2.2.1 (Nat.le_succ 2) (Nat.le_succ 3)) (hG.2.2.2.2.2.1 (Nat.le_refl 3)) hT
  rw [show Tk.put (l.at 1) u c = t from ht] at hT
  rw [show Tk.put _ _ c = t from ht, show Hd.take ⟨3, kd, 1, v0, v1, v2, u, er⟩ t = Hd.S.num ⟨3, kd, 1, v0, v1, v2, u, er⟩ t.n by unfold Hd.take; rw [if_neg (by omega), if_pos hk, if_neg hn]] at hG'
  have hv := Tk.val_over hT hk
  have hz : (t.n == 0) = false := by simpa using hn
  obtain ⟨_, nv, f, x, h1, h2, h3, h4⟩ := h
  obtain ⟨rfl, hr, hne⟩ := h2 rfl
  have hx := h3 (Nat.le_refl 3)
  have h1' : HdC w b kd l.m0 l.m1 l.m2 v0 v1 v2 1 (.pointer (some ⟨n, 0, none⟩)) 0 f x := h1
  have hc8 := h1'.c8
  have HC := Lib.hid (tokC (n := n) (hG.2.1 (Nat.le_refl 3)).1 hl c0 c1 ht (Tk.st_over hk))
  have HV : Hid (∀ W, RdS W n (l.at 1) t → Calls Tryz.prog 220 #[.pointer (some ⟨n, 0, none⟩)] W fun e w' => e = .returned (.tuple #[.int .i64 t.n, .int .i64 0]) ∧ W.grownBy w' none) := fun W hr => (value_s hr).mono fun e w' hh => ⟨by rw [hh.1, hv], hh.2⟩
  have HN : Hid (∀ W, Calls Tryz.prog 221 #[.int .i64 kd] W fun e w' => e = .returned (.int .i64 2) ∧ W = w') := fun W => by have := numbers_any kd W; rw [hm] at this; exact this
  have HR := Lib.hid (show RdS w n (l.at 1) u from hr)
  have HX := Lib.hid hx
  unfold Hd.S.num at hG' ⊢
  rw [hm] at hG' ⊢
  obtain ⟨k, hkk⟩ : ∃ k, t.n = k := ⟨_, rfl⟩
  rw [hkk] at HV hz hG' ⊢
  have HG' : Hid (Hd.Good l ⟨4, kd, 2, v0, k, v2, Tk.new, er⟩) := hG'
  show Calls _ _ _ _ (InR w b n l ⟨4, kd, 2, v0, k, v2, Tk.new, er⟩)
  have H1 := Lib.hid h1'
  have hblt := h1'.lt
  clear h1 h1' hr h2 h3 h4 hG hl ht hk hG' hT hv hn hm hx
  go_enter Tryz.func211, Tryz.ntmps211
  go_wp2_with fail
  refine (HC.out _ HR.out).mono ?_
  rintro e1 w1 ⟨rfl, hr, hg⟩
  have HR1 := Lib.hid hr
  have HG1 := Lib.hid hg
  have h2 := H1.out.kept hg (some_ne (Ne.symm hne))
  have hd8 := h2.c8
  have H2 := Lib.hid h2
  clear hr hg h2 hc8
  go_wp2_with fail
  refine (HV.out _ HR1.out).mono ?_
  rintro e1 w2 ⟨rfl, hg⟩
  have HG2 := Lib.hid hg
  have h3 := H2.out.kept hg (by simp)
  have e0 := h3.c0
  have e7 := h3.c7
  have eN := h3.c5
  have fr7 := h3.fr 7
  have frN := h3.fr 5
  have hlt2 := h3.lt
  have H4 : Hid (HdC ((w2.setCell ⟨b, 5, none⟩ (.int .i64 k)).setCell ⟨b, 7, none⟩ (.int .i64 2)).drew b kd l.m0 l.m1 l.m2 v0 k v2 2 (.pointer (some ⟨n, 0, none⟩)) 0 f x) := (h3.put5 k).put7 2
  have SEP4 : Hid (Sep (two b n) w2 ((w2.setCell ⟨b, 5, none⟩ (.int .i64 k)).setCell ⟨b, 7, none⟩ (.int .i64 2)).drew) := by
    show Sep _ _ _
    exact ((Sep.setCell w2 (.inl rfl) _).trans (.setCell _ (.inl rfl) _)).trans (.drew _ _)
  clear hg h3 hd8
  go_wp2_with fail
  go_region_with (fail)
  all_goals
    go_wp2_with fail
    generalize ((w2.setCell ⟨b, 5, none⟩ (.int .i64 k)).setCell ⟨b, 7, none⟩ (.int .i64 2)).drew = w4 at H4 SEP4 ⊢
    have q0 := H4.out.c0
    have q7 := H4.out.c7
    have LTB := Lib.hid (show b < w4.heap.size from H4.out.lt)
    have LE5 := Lib.hid (show w.heap.size ≤ w4.heap.size from Nat.le_trans HG1.out.size (Nat.le_trans HG2.out.size SEP4.out.size))
    go_quiet ((go_at_call 221; exact Calls.quiet_of_same ((HN.out _).mono fun e w' hh => ⟨hh.1, hh.2.symm⟩)))
    go_wp2_with fail
    go_ret
    exact ⟨n, rfl, ⟨HG'.out, _, f, x, H4.out.drewN _, fun h => absurd h (show ¬ (4 : Nat) = 3 by decide), fun h => absurd h (show ¬ (4 : Nat) ≤ 3 by decide), fun h => absurd h (show ¬ (4 : Nat) = 5 by decide)⟩, (((Sep.grown HG1.out (.inr rfl)).trans (.grownN HG2.out)).trans SEP4.out).trans (.drewN _ _ _), .inl rfl⟩
set_option maxHeartbeats 4000000 in
theorem in_num13 {l : Hd.L} (hl : l.Ok) (kd v0 v1 v2 er : Int) (u : Tk.S) (hG : Hd.Good l ⟨3, kd, 1, v0, v1, v2, u, er⟩) (hm : Hd.many kd = 3) (c : Int) (c0 : 0 ≤ c) (c1 : c ≤ 255) (t : Tk.S) (ht : Tk.put (l.at 1) u c = t) (hk : t.k = 4) (hn : t.n ≠ 0) (w : World) (b n : Nat) (h : HdX 0 w b n l ⟨3, kd, 1, v0, v1, v2, u, er⟩) :
    Calls Tryz.prog 211 #[.pointer (some ⟨b, 0, none⟩), .int .u8 c] w (InR w b n l (Hd.S.num ⟨3, kd, 1, v0, v1, v2, u, er⟩ t.n)) := by
  have hT := Tk.good_put (hG.2.1 (Nat.le_refl 3)).1 c
  have hG' := Hd.good_take hl (hG.2.2.2.2.1 (Nat.le_succ 2) (Nat.le_succ 3)) (hG.2.2.2.2.2.1 (Nat.le_refl 3)) hT
  rw [show Tk.put (l.at 1) u c = t from ht] at hT
  rw [show Tk.put _ _ c = t from ht, show Hd.take ⟨3, kd, 1, v0, v1, v2, u, er⟩ t = Hd.S.num ⟨3, kd, 1, v0, v1, v2, u, er⟩ t.n by unfold Hd.take; rw [if_neg (by omega), if_pos hk, if_neg hn]] at hG'
  have hv := Tk.val_over hT hk
  have hz : (t.n == 0) = false := by simpa using hn
  obtain ⟨_, nv, f, x, h1, h2, h3, h4⟩ := h
  obtain ⟨rfl, hr, hne⟩ := h2 rfl
  have hx := h3 (Nat.le_refl 3)
  have h1' : HdC w b kd l.m0 l.m1 l.m2 v0 v1 v2 1 (.pointer (some ⟨n, 0, none⟩)) 0 f x := h1
  have hc8 := h1'.c8
  have HC := Lib.hid (tokC (n := n) (hG.2.1 (Nat.le_refl 3)).1 hl c0 c1 ht (Tk.st_over hk))
  have HV : Hid (∀ W, RdS W n (l.at 1) t → Calls Tryz.prog 220 #[.pointer (some ⟨n, 0, none⟩)] W fun e w' => e = .returned (.tuple #[.int .i64 t.n, .int .i64 0]) ∧ W.grownBy w' none) := fun W hr => (value_s hr).mono fun e w' hh => ⟨by rw [hh.1, hv], hh.2⟩
  have HN : Hid (∀ W, Calls Tryz.prog 221 #[.int .i64 kd] W fun e w' => e = .returned (.int .i64 3) ∧ W = w') := fun W => by have := numbers_any kd W; rw [hm] at this; exact this
  have HR := Lib.hid (show RdS w n (l.at 1) u from hr)
  have HX := Lib.hid hx
  unfold Hd.S.num at hG' ⊢
  rw [hm] at hG' ⊢
  obtain ⟨k, hkk⟩ : ∃ k, t.n = k := ⟨_, rfl⟩
  rw [hkk] at HV hz hG' ⊢
  have HG' : Hid (Hd.Good l ⟨3, kd, 2, v0, k, v2, Tk.new, er⟩) := hG'
  show Calls _ _ _ _ (InR w b n l ⟨3, kd, 2, v0, k, v2, Tk.new, er⟩)
  have HB := Lib.hid (fun W x nv h => hbegin2_any W b kd l.m0 l.m1 l.m2 v0 k v2 nv 0 f x h (by have := Hd.L.at_ok hl 2; unfold Hd.L.at at this; simp at this; omega))
  have H1 := Lib.hid h1'
  have hblt := h1'.lt
  clear h1 h1' hr h2 h3 h4 hG hl ht hk hG' hT hv hn hm hx
  go_enter Tryz.func211, Tryz.ntmps211
  go_wp2_with fail
  refine (HC.out _ HR.out).mono ?_
  rintro e1 w1 ⟨rfl, hr, hg⟩
  have HR1 := Lib.hid hr
  have HG1 := Lib.hid hg
  have h2 := H1.out.kept hg (some_ne (Ne.symm hne))
  have hd8 := h2.c8
  have H2 := Lib.hid h2
  clear hr hg h2 hc8
  go_wp2_with fail
  refine (HV.out _ HR1.out).mono ?_
  rintro e1 w2 ⟨rfl, hg⟩
  have HG2 := Lib.hid hg
  have h3 := H2.out.kept hg (by simp)
  have e0 := h3.c0
  have e7 := h3.c7
  have eN := h3.c5
  have fr7 := h3.fr 7
  have frN := h3.fr 5
  have hlt2 := h3.lt
  have H4 : Hid (HdC ((w2.setCell ⟨b, 5, none⟩ (.int .i64 k)).setCell ⟨b, 7, none⟩ (.int .i64 2)).drew b kd l.m0 l.m1 l.m2 v0 k v2 2 (.pointer (some ⟨n, 0, none⟩)) 0 f x) := (h3.put5 k).put7 2
  have SEP4 : Hid (Sep (two b n) w2 ((w2.setCell ⟨b, 5, none⟩ (.int .i64 k)).setCell ⟨b, 7, none⟩ (.int .i64 2)).drew) := by
    show Sep _ _ _
    exact ((Sep.setCell w2 (.inl rfl) _).trans (.setCell _ (.inl rfl) _)).trans (.drew _ _)
  clear hg h3 hd8
  go_wp2_with fail
  go_region_with (fail)
  all_goals
    go_wp2_with fail
    generalize ((w2.setCell ⟨b, 5, none⟩ (.int .i64 k)).setCell ⟨b, 7, none⟩ (.int .i64 2)).drew = w4 at H4 SEP4 ⊢
    have q0 := H4.out.c0
    have q7 := H4.out.c7
    have LTB := Lib.hid (show b < w4.heap.size from H4.out.lt)
    have LE5 := Lib.hid (show w.heap.size ≤ w4.heap.size from Nat.le_trans HG1.out.size (Nat.le_trans HG2.out.size SEP4.out.size))
    go_quiet ((go_at_call 221; exact Calls.quiet_of_same ((HN.out _).mono fun e w' hh => ⟨hh.1, hh.2.symm⟩)))
    go_wp2_with fail
    refine (HB.out _ _ _ (H4.out.drewN _)).mono ?_
    rintro e1 w5 ⟨rfl, h5, hr5, hg⟩
    have HG5 := Lib.hid hg
    have H5 := Lib.hid h5
    have HR5 := Lib.hid hr5
    clear hg h5 hr5
    go_wp2
    go_ret
    exact ⟨_, rfl, ⟨HG'.out, _, f, x, H5.out, fun _ => ⟨rfl, HR5.out, Nat.ne_of_gt LTB.out⟩, fun _ => HX.out, fun h => absurd h (show ¬ (3 : Nat) = 5 by decide)⟩, ((((Sep.grown HG1.out (.inr rfl)).trans (.grownN HG2.out)).trans SEP4.out).trans (.drewN _ _ _)).trans (.grown HG5.out (.inl rfl)), .inr LE5.out⟩
set_option maxHeartbeats 4000000 in
theorem in_num23 {l : Hd.L} (hl : l.Ok) (kd v0 v1 v2 er : Int) (u : Tk.S) (hG : Hd.Good l ⟨3, kd, 2, v0, v1, v2, u, er⟩) (hm : Hd.many kd = 3) (c : Int) (c0 : 0 ≤ c) (c1 : c ≤ 255) (t : Tk.S) (ht : Tk.put (l.at 2) u c = t) (hk : t.k = 4) (hn : t.n ≠ 0) (w : World) (b n : Nat) (h : HdX 0 w b n l ⟨3, kd, 2, v0, v1, v2, u, er⟩) :
    Calls Tryz.prog 211 #[.pointer (some ⟨b, 0, none⟩), .int .u8 c] w (InR w b n l (Hd.S.num ⟨3, kd, 2, v0, v1, v2, u, er⟩ t.n)) := by
  have hT := Tk.good_put (hG.2.1 (Nat.le_refl 3)).1 c
  have hG' := Hd.good_take hl (hG.2.2.2.2.1 (Nat.le_succ 2) (Nat.le_succ 3)) (hG.2.2.2.2.2.1 (Nat.le_refl 3)) hT
  rw [show Tk.put (l.at 2) u c = t from ht] at hT
  rw [show Tk.put _ _ c = t from ht, show Hd.take ⟨3, kd, 2, v0, v1, v2, u, er⟩ t = Hd.S.num ⟨3, kd, 2, v0, v1, v2, u, er⟩ t.n by unfold Hd.take; rw [if_neg (by omega), if_pos hk, if_neg hn]] at hG'
  have hv := Tk.val_over hT hk
  have hz : (t.n == 0) = false := by simpa using hn
  obtain ⟨_, nv, f, x, h1, h2, h3, h4⟩ := h
  obtain ⟨rfl, hr, hne⟩ := h2 rfl
  have hx := h3 (Nat.le_refl 3)
  have h1' : HdC w b kd l.m0 l.m1 l.m2 v0 v1 v2 2 (.pointer (some ⟨n, 0, none⟩)) 0 f x := h1
  have hc8 := h1'.c8
  have HC := Lib.hid (tokC (n := n) (hG.2.1 (Nat.le_refl 3)).1 hl c0 c1 ht (Tk.st_over hk))
  have HV : Hid (∀ W, RdS W n (l.at 2) t → Calls Tryz.prog 220 #[.pointer (some ⟨n, 0, none⟩)] W fun e w' => e = .returned (.tuple #[.int .i64 t.n, .int .i64 0]) ∧ W.grownBy w' none) := fun W hr => (value_s hr).mono fun e w' hh => ⟨by rw [hh.1, hv], hh.2⟩
  have HN : Hid (∀ W, Calls Tryz.prog 221 #[.int .i64 kd] W fun e w' => e = .returned (.int .i64 3) ∧ W = w') := fun W => by have := numbers_any kd W; rw [hm] at this; exact this
  have HR := Lib.hid (show RdS w n (l.at 2) u from hr)
  have HX := Lib.hid hx
  unfold Hd.S.num at hG' ⊢
  rw [hm] at hG' ⊢
  obtain ⟨k, hkk⟩ : ∃ k, t.n = k := ⟨_, rfl⟩
  rw [hkk] at HV hz hG' ⊢
  have HG' : Hid (Hd.Good l ⟨4, kd, 3, v0, v1, k, Tk.new, er⟩) := hG'
  show Calls _ _ _ _ (InR w b n l ⟨4, kd, 3, v0, v1, k, Tk.new, er⟩)
  have H1 := Lib.hid h1'
  have hblt := h1'.lt
  clear h1 h1' hr h2 h3 h4 hG hl ht hk hG' hT hv hn hm hx
  go_enter Tryz.func211, Tryz.ntmps211
  go_wp2_with fail
  refine (HC.out _ HR.out).mono ?_
  rintro e1 w1 ⟨rfl, hr, hg⟩
  have HR1 := Lib.hid hr
  have HG1 := Lib.hid hg
  have h2 := H1.out.kept hg (some_ne (Ne.symm hne))
  have hd8 := h2.c8
  have H2 := Lib.hid h2
  clear hr hg h2 hc8
  go_wp2_with fail
  refine (HV.out _ HR1.out).mono ?_
  rintro e1 w2 ⟨rfl, hg⟩
  have HG2 := Lib.hid hg
  have h3 := H2.out.kept hg (by simp)
  have e0 := h3.c0
  have e7 := h3.c7
  have eN := h3.c6
  have fr7 := h3.fr 7
  have frN := h3.fr 6
  have hlt2 := h3.lt
  have H4 : Hid (HdC ((w2.setCell ⟨b, 6, none⟩ (.int .i64 k)).setCell ⟨b, 7, none⟩ (.int .i64 3)).drew b kd l.m0 l.m1 l.m2 v0 v1 k 3 (.pointer (some ⟨n, 0, none⟩)) 0 f x) := (h3.put6 k).put7 3
  have SEP4 : Hid (Sep (two b n) w2 ((w2.setCell ⟨b, 6, none⟩ (.int .i64 k)).setCell ⟨b, 7, none⟩ (.int .i64 3)).drew) := by
    show Sep _ _ _
    exact ((Sep.setCell w2 (.inl rfl) _).trans (.setCell _ (.inl rfl) _)).trans (.drew _ _)
  clear hg h3 hd8
  go_wp2_with fail
  go_region_with (fail)
  all_goals
    go_wp2_with fail
    generalize ((w2.setCell ⟨b, 6, none⟩ (.int .i64 k)).setCell ⟨b, 7, none⟩ (.int .i64 3)).drew = w4 at H4 SEP4 ⊢
    have q0 := H4.out.c0
    have q7 := H4.out.c7
    have LTB := Lib.hid (show b < w4.heap.size from H4.out.lt)
    have LE5 := Lib.hid (show w.heap.size ≤ w4.heap.size from Nat.le_trans HG1.out.size (Nat.le_trans HG2.out.size SEP4.out.size))
    go_quiet ((go_at_call 221; exact Calls.quiet_of_same ((HN.out _).mono fun e w' hh => ⟨hh.1, hh.2.symm⟩)))
    go_wp2_with fail
    go_ret
    exact ⟨n, rfl, ⟨HG'.out, _, f, x, H4.out.drewN _, fun h => absurd h (show ¬ (4 : Nat) = 3 by decide), fun h => absurd h (show ¬ (4 : Nat) ≤ 3 by decide), fun h => absurd h (show ¬ (4 : Nat) = 5 by decide)⟩, (((Sep.grown HG1.out (.inr rfl)).trans (.grownN HG2.out)).trans SEP4.out).trans (.drewN _ _ _), .inl rfl⟩
end Go.Proofs.YtooilemglmndeaaGreat

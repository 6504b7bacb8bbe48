/- A reader of a head is told a byte, over any memory. Condition: its limits are such as may be. -/
import Derived.Test.YtkphfpckkmendaaHedD
namespace Go.Proofs.Ytkphfpckkmendaa
open Go.RowKit
set_option linter.unusedVariables false

theorem inNum_any {l : Hd.L} (hl : l.Ok) {s : Hd.S} (hG : Hd.Good l s) (hp : s.p = 3) (c : Int) (c0 : 0 ≤ c) (c1 : c ≤ 255) (w : World) (b n : Nat) (h : HdX 0 w b n l s) :
    Calls Try.prog 36 #[.pointer (some ⟨b, 0, none⟩), .int .u8 c] w (InR w b n l (Hd.inNum l s c)) := by
  obtain ⟨t, ht⟩ : ∃ t, Tk.put (l.at s.i) s.t c = t := ⟨_, rfl⟩
  have hT := Tk.good_put (hG.2.1 (by omega)).1 c
  rw [ht] at hT
  unfold Hd.inNum
  rw [ht]
  by_cases k5 : t.k = 5
  · unfold Hd.take; rw [if_pos k5]; exact in_wrong hl hG hp c c0 c1 t ht k5 w b n h
  by_cases k4 : t.k = 4
  · unfold Hd.take
    rw [if_neg k5, if_pos k4]
    by_cases hn : t.n = 0
    · rw [if_pos hn]; exact in_zero hl hG hp c c0 c1 t ht k4 hn w b n h
    · rw [if_neg hn]
      have hi := hG.2.2.2.2.2.1 (by omega)
      obtain ⟨p, kd, i, v0, v1, v2, u, er⟩ := s
      obtain rfl : p = 3 := hp
      have hm := Hd.many_at kd
      have hi' : i < Hd.many kd := hi
      have hcase : (i = 0 ∧ Hd.many kd = 2) ∨ (i = 0 ∧ Hd.many kd = 3) ∨ (i = 1 ∧ Hd.many kd = 2) ∨ (i = 1 ∧ Hd.many kd = 3) ∨ (i = 2 ∧ Hd.many kd = 3) := by omega
      rcases hcase with ⟨rfl, hm⟩ | ⟨rfl, hm⟩ | ⟨rfl, hm⟩ | ⟨rfl, hm⟩ | ⟨rfl, hm⟩
      · exact in_num02 hl kd v0 v1 v2 er u hG hm c c0 c1 t ht k4 hn w b n h
      · exact in_num03 hl kd v0 v1 v2 er u hG hm c c0 c1 t ht k4 hn w b n h
      · exact in_num12 hl kd v0 v1 v2 er u hG hm c c0 c1 t ht k4 hn w b n h
      · exact in_num13 hl kd v0 v1 v2 er u hG hm c c0 c1 t ht k4 hn w b n h
      · exact in_num23 hl kd v0 v1 v2 er u hG hm c c0 c1 t ht k4 hn w b n h
  · have := hT.1
    unfold Hd.take; rw [if_neg k5, if_neg k4]; exact in_more hl hG hp c c0 c1 t ht (by omega) w b n h
set_option maxHeartbeats 2000000 in
theorem first_yes {l : Hd.L} (hl : l.Ok) {s : Hd.S} (hG : Hd.Good l s) (hp : s.p = 0) (w : World) (b n : Nat) (h : HdX 0 w b n l s) :
    Calls Try.prog 26 #[.pointer (some ⟨b, 0, none⟩), .int .u8 80] w (InR w b n l (Hd.put l s 80)) := by
  have hG' := Hd.good_put hl hG 80
  have hs : Hd.put l s 80 = ⟨1, s.kd, s.i, s.v0, s.v1, s.v2, s.t, s.e⟩ := by unfold Hd.put; rw [if_pos hp, if_pos rfl]
  rw [hs] at hG' ⊢
  obtain ⟨_, nv, f, x, h1, h2, h3, h4⟩ := h
  have hc := h1.c11
  have hf := h1.fr 11
  clear hs h2 h3 h4
  go_enter Try.func26, Try.ntmps26
  go_wp2
  go_ret
  exact ⟨n, rfl, ⟨hG', _, f, _, h1.put11 _, fun h => absurd h (show ¬ (1 : Nat) = 3 by decide), fun _ => rfl, fun h => absurd h (show ¬ (1 : Nat) = 5 by decide)⟩, .setCell _ (.inl rfl) _, .inl rfl⟩
set_option maxHeartbeats 2000000 in
theorem first_no {l : Hd.L} (hl : l.Ok) {s : Hd.S} (hG : Hd.Good l s) (hp : s.p = 0) (c : Int) (c0 : 0 ≤ c) (c1 : c ≤ 255) (hc : ¬ c = 80) (w : World) (b n : Nat) (h : HdX 0 w b n l s) :
    Calls Try.prog 26 #[.pointer (some ⟨b, 0, none⟩), .int .u8 c] w (InR w b n l (Hd.put l s c)) := by
  have hG' := Hd.good_put hl hG c
  have hs : Hd.put l s c = s.wrong 2 := by unfold Hd.put; rw [if_pos hp, if_neg hc]
  rw [hs] at hG' ⊢
  obtain ⟨_, nv, f, x, h1, h2, h3, h4⟩ := h
  have hk : (c != 80) = true := by simpa using hc
  have H1 := Lib.hid h1
  have HW := Lib.hid hwrong_any
  clear hs h2 h3 h4 hc h1
  go_enter Try.func26, Try.ntmps26
  go_wp2_with fail
  refine (HW.out _ _ _ _ _ _ _ _ _ _ _ _ _ _ H1.out _).mono ?_
  rintro e1 w3 ⟨rfl, h3, hg⟩
  go_wp2
  go_ret
  exact ⟨n, rfl, ⟨hG', _, _, _, h3, fun h => absurd h (show ¬ (5 : Nat) = 3 by decide), fun h => absurd h (show ¬ (5 : Nat) ≤ 3 by decide), fun _ => rfl⟩, .grown hg (.inl rfl), .inl rfl⟩
set_option maxHeartbeats 2000000 in
theorem second_yes {l : Hd.L} (hl : l.Ok) {s : Hd.S} (hG : Hd.Good l s) (hp : s.p = 1) (c : Int) (c0 : 49 ≤ c) (c1 : c ≤ 54) (w : World) (b n : Nat) (h : HdX 0 w b n l s) :
    Calls Try.prog 32 #[.pointer (some ⟨b, 0, none⟩), .int .u8 c] w (InR w b n l (Hd.put l s c)) := by
  have hG' := Hd.good_put hl hG c
  have hs : Hd.put l s c = ⟨2, c - 48, s.i, s.v0, s.v1, s.v2, s.t, s.e⟩ := by unfold Hd.put; rw [if_neg (by omega), if_pos hp, if_pos ⟨c0, c1⟩]
  rw [hs] at hG' ⊢
  obtain ⟨_, nv, f, x, h1, h2, h3, h4⟩ := h
  have hc0 := h1.c0
  have hc := h1.c11
  have hf0 := h1.fr 0
  have hf := h1.fr 11
  have k1 : ¬ c < 49 := by omega
  have k2 : ¬ 54 < c := by omega
  have k3 : 0 ≤ c - 48 := by omega
  have k4 : c - 48 ≤ 255 := by omega
  have H1 := Lib.hid h1
  clear hs h2 h3 h4 h1 hp
  go_enter Try.func32, Try.ntmps32
  go_wp2
  go_ret
  exact ⟨n, rfl, ⟨hG', _, f, _, (H1.out.put0 _).put11 _, fun h => absurd h (show ¬ (2 : Nat) = 3 by decide), fun _ => rfl, fun h => absurd h (show ¬ (2 : Nat) = 5 by decide)⟩, (Sep.setCell _ (.inl rfl) _).trans (.setCell _ (.inl rfl) _), .inl rfl⟩
set_option maxHeartbeats 2000000 in
theorem second_no {l : Hd.L} (hl : l.Ok) {s : Hd.S} (hG : Hd.Good l s) (hp : s.p = 1) (c : Int) (c0 : 0 ≤ c) (c1 : c ≤ 255) (hc : ¬ (49 ≤ c ∧ c ≤ 54)) (w : World) (b n : Nat) (h : HdX 0 w b n l s) :
    Calls Try.prog 32 #[.pointer (some ⟨b, 0, none⟩), .int .u8 c] w (InR w b n l (Hd.put l s c)) := by
  have hG' := Hd.good_put hl hG c
  have hs : Hd.put l s c = s.wrong 2 := by unfold Hd.put; rw [if_neg (by omega), if_pos hp, if_neg hc]
  rw [hs] at hG' ⊢
  obtain ⟨_, nv, f, x, h1, h2, h3, h4⟩ := h
  have H1 := Lib.hid h1
  have HW := Lib.hid hwrong_any
  by_cases k1 : c < 49
  · clear hs h2 h3 h4 hc h1 hp
    go_enter Try.func32, Try.ntmps32
    go_wp2_with fail
    refine (HW.out _ _ _ _ _ _ _ _ _ _ _ _ _ _ H1.out _).mono ?_
    rintro e1 w3 ⟨rfl, h3, hg⟩
    go_wp2
    go_ret
    exact ⟨n, rfl, ⟨hG', _, _, _, h3, fun h => absurd h (show ¬ (5 : Nat) = 3 by decide), fun h => absurd h (show ¬ (5 : Nat) ≤ 3 by decide), fun _ => rfl⟩, .grown hg (.inl rfl), .inl rfl⟩
  · have k2 : 54 < c := by omega
    clear hs h2 h3 h4 hc h1 hp
    go_enter Try.func32, Try.ntmps32
    go_wp2_with fail
    refine (HW.out _ _ _ _ _ _ _ _ _ _ _ _ _ _ H1.out _).mono ?_
    rintro e1 w3 ⟨rfl, h3, hg⟩
    go_wp2
    go_ret
    exact ⟨n, rfl, ⟨hG', _, _, _, h3, fun h => absurd h (show ¬ (5 : Nat) = 3 by decide), fun h => absurd h (show ¬ (5 : Nat) ≤ 3 by decide), fun _ => rfl⟩, .grown hg (.inl rfl), .inl rfl⟩
set_option maxHeartbeats 2000000 in
theorem third_no {l : Hd.L} (hl : l.Ok) {s : Hd.S} (hG : Hd.Good l s) (hp : s.p = 2) (c : Int) (c0 : 0 ≤ c) (c1 : c ≤ 255) (hb : Tk.blank c = false) (hc : ¬ c = 35) (w : World) (b n : Nat) (h : HdX 0 w b n l s) :
    Calls Try.prog 33 #[.pointer (some ⟨b, 0, none⟩), .int .u8 c] w (InR w b n l (Hd.put l s c)) := by
  have hG' := Hd.good_put hl hG c
  have hs : Hd.put l s c = s.wrong 3 := by unfold Hd.put; rw [if_neg (by omega), if_neg (by omega), if_pos hp, if_neg (by rw [hb]; simpa using hc)]
  rw [hs] at hG' ⊢
  obtain ⟨_, nv, f, x, h1, h2, h3, h4⟩ := h
  have H1 := Lib.hid h1
  have HW := Lib.hid hwrong_any
  have HB : Hid (∀ W, Calls Try.prog 34 #[.int .u8 c] W fun e w' => e = .returned (.bool false) ∧ W = w') := fun W => by have := blank_any c c0 c1 W; rw [hb] at this; exact this
  have hk : (c != 35) = true := by simpa using hc
  clear hs h2 h3 h4 hc h1 hp hb
  go_enter Try.func33, Try.ntmps33
  go_wp2_with fail
  refine (HB.out _).mono ?_
  rintro e1 w2 ⟨rfl, rfl⟩
  go_wp2_with fail
  refine (HW.out _ _ _ _ _ _ _ _ _ _ _ _ _ _ H1.out _).mono ?_
  rintro e1 w3 ⟨rfl, h3, hg⟩
  go_wp2
  go_ret
  exact ⟨n, rfl, ⟨hG', _, _, _, h3, fun h => absurd h (show ¬ (5 : Nat) = 3 by decide), fun h => absurd h (show ¬ (5 : Nat) ≤ 3 by decide), fun _ => rfl⟩, .grown hg (.inl rfl), .inl rfl⟩
theorem Sep.fresh {b n k : Nat} {w w2 w3 : World} (h : Sep (two b n) w w2) (h2 : Sep (two b k) w2 w3) (hk : w.heap.size ≤ k) : Sep (two b n) w w3 :=
  ⟨h2.os.trans h.os, h2.tape.trans h.tape, h2.output.trans h.output, Nat.le_trans h.size h2.size, fun j hj hz => (h2.block j (Nat.lt_of_lt_of_le hj h.size) (fun e => e.elim (fun e => hz (.inl e)) (fun e => by omega))).trans (h.block j hj hz)⟩
set_option maxHeartbeats 2000000 in
theorem third_go {l : Hd.L} (hl : l.Ok) {s : Hd.S} (hG : Hd.Good l s) (hp : s.p = 2) (c : Int) (c0 : 0 ≤ c) (c1 : c ≤ 255) (hy : Tk.blank c = true ∨ c = 35) (g : Bool) (hb : Tk.blank c = g) (hgo : g = true ∨ (g = false ∧ c = 35)) (w : World) (b n : Nat) (h : HdX 0 w b n l s) :
    Calls Try.prog 33 #[.pointer (some ⟨b, 0, none⟩), .int .u8 c] w (InR w b n l (Hd.put l s c)) := by
  obtain ⟨a1, a2, a3, a4, a5⟩ := hG.2.2.1 (by omega)
  have hs : Hd.put l s c = Hd.inNum l (s.tok s.t) c := by unfold Hd.put; rw [if_neg (by omega), if_neg (by omega), if_pos hp, if_pos hy]; rfl
  rw [hs]
  obtain ⟨p, kd, i, v0, v1, v2, u, er⟩ := s
  simp only at a1 a2 a3 a4 a5 hp
  subst a1 a2 a3 a4 a5 hp
  have hG3 : Hd.Good l ⟨3, kd, 0, 0, 0, 1, Tk.new, er⟩ := by
    have := Hd.L.at_ok hl 0
    exact ⟨Nat.le_succ_of_le (Nat.le_succ 3), fun _ => hG.2.1 (Nat.le_succ 2), fun h => absurd h (show ¬ (3 : Nat) ≤ 2 by decide), fun h => absurd h (show ¬ (3 : Nat) ≤ 1 by decide), fun _ _ => hG.2.2.2.2.1 (Nat.le_refl 2) (Nat.le_succ_of_le (Nat.le_succ_of_le (Nat.le_refl 2))), fun _ => hG.2.2.2.2.2.1 (Nat.le_succ 2), fun h => absurd h (show ¬ (3 : Nat) = 5 by decide), Nat.zero_le 3⟩
  obtain ⟨_, nv, f, x, h1, h2, h3, h4⟩ := h
  have h1' : HdC w b kd l.m0 l.m1 l.m2 0 0 1 0 nv 0 f x := h1
  have H1 := Lib.hid h1'
  have HI := Lib.hid (fun W n h => inNum_any hl hG3 rfl c c0 c1 W b n h)
  have HN := Lib.hid enHN
  have HBg := Lib.hid (fun W h => hbegin0_any W b kd l.m0 l.m1 l.m2 0 0 1 nv 0 f x h (by have := Hd.L.at_ok hl 0; unfold Hd.L.at at this; simp at this; omega))
  have HB : Hid (∀ W, Calls Try.prog 34 #[.int .u8 c] W fun e w' => e = .returned (.bool g) ∧ W = w') := fun W => by have := blank_any c c0 c1 W; rw [hb] at this; exact this
  obtain ⟨fn, hfn⟩ : ∃ fn, fn = 36 := ⟨_, rfl⟩
  have HFN := Lib.hid hfn
  have hlt := h1'.lt
  have HGG := Lib.hid hG3
  clear hs h2 h3 h4 h1 h1' hb hy hG hG3 hl hfn
  rcases hgo with rfl | ⟨rfl, rfl⟩
  all_goals
    go_enter Try.func33, Try.ntmps33
    go_wp2_with fail
    refine (HB.out _).mono ?_
    rintro e1 w2 ⟨rfl, rfl⟩
    go_wp2_with fail
    refine (HBg.out _ H1.out).mono ?_
    rintro e1 w2 ⟨rfl, h2, hr, hg⟩
    have hc11 := h2.c11
    have hf11 := h2.fr 11
    have HG2 := Lib.hid hg
    have hlt2 : w.heap.size ≤ w2.heap.size := hg.size
    have HX3 : Hid (HdX 0 (w2.setCell ⟨b, 11, none⟩ (nxHN b)) b w.heap.size l ⟨3, kd, 0, 0, 0, 1, Tk.new, er⟩) := ⟨HGG.out, _, f, _, h2.put11 _, fun _ => ⟨rfl, hr.kept (grown_set _ _ _ _) (some_ne (Nat.ne_of_gt hlt)), Nat.ne_of_gt hlt⟩, fun _ => rfl, fun h => absurd h (show ¬ (3 : Nat) = 5 by decide)⟩
    have hc11b := (h2.put11 (nxHN b)).c11
    have SP3 : Hid (Sep (two b n) w (w2.setCell ⟨b, 11, none⟩ (nxHN b))) := (Sep.grown hg (.inl rfl)).trans (.setCell _ (.inl rfl) _)
    clear hg h2 hr
    unfold nxHN at HX3 SP3 hc11b
    go_wp2_with fail
    refine (HI.out _ _ HX3.out).mono ?_
    rintro e1 w4 ⟨n', rfl, hx, hsp, hn'⟩
    go_wp2
    go_ret
    exact ⟨n', rfl, hx, SP3.out.fresh hsp (Nat.le_refl _), .inr (hn'.elim (fun e => Nat.le_of_eq e.symm) (fun e => Nat.le_trans SP3.out.size e))⟩
end Go.Proofs.Ytkphfpckkmendaa

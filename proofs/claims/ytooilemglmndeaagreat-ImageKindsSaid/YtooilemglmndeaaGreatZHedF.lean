/- A reader of a head is told a byte, and tells the head, over any memory. Condition: its limits are such as may be. -/
import Derived.Test.YtooilemglmndeaaGreatZgAD
import Derived.Test.YtooilemglmndeaaGreatZgAA
import Derived.Deep.RegionHeld3
namespace Go.Proofs.YtooilemglmndeaaGreat
open Go.RowKit
set_option linter.unusedVariables false

/-- what a reader hands back of a byte, and what its blocks hold then -/
def HPutR (w : World) (b n : Nat) (l : Hd.L) (s : Hd.S) (e : Ending) (w' : World) : Prop :=
  ∃ n', e = .returned (.int .i64 (Hd.st s)) ∧ HdX (Hd.st s) w' b n' l s ∧ Sep (two b n) w w' ∧ (n' = n ∨ w.heap.size ≤ n')
theorem HdX.status {w : World} {b n : Nat} {l : Hd.L} {s : Hd.S} (h : HdX 0 w b n l s) (T : Int) : HdX T (w.setCell ⟨b, 9, none⟩ (.int .i64 T)) b n l s := by
  obtain ⟨hG, nv, f, x, h1, h2, h3, h4⟩ := h
  refine ⟨hG, nv, f, x, h1.put9 T, fun hp => ?_, h3, h4⟩
  obtain ⟨a1, a2, a3⟩ := h2 hp
  exact ⟨a1, a2.kept (grown_set _ _ _ _) (some_ne a3), a3⟩
set_option maxHeartbeats 1000000 in
theorem hput_go {l : Hd.L} {s s' : Hd.S} (hp : s.p ≤ 3) (c : Int) (w : World) (b n : Nat) (h : HdX 0 w b n l s) (fn : Nat) (hn : ∀ args w, (callFunc fn args).run Tryz.prog w = .ok (.enter fn args) w)
    (hx : nxP s.p b = .func (.func fn) #[.pointer (some ⟨b, 0, none⟩)] #[]) (hcall : Calls Tryz.prog fn #[.pointer (some ⟨b, 0, none⟩), .int .u8 c] w (InR w b n l s')) :
    Calls Tryz.prog 101 #[.pointer (some ⟨b, 0, none⟩), .int .u8 c] w (HPutR w b n l s') := by
  obtain ⟨_, nv, f, x, h1, h2, h3, h4⟩ := h
  obtain rfl := h3 hp
  rw [hx] at h1
  have hc9 := h1.c9
  have hc11 := h1.c11
  have HC := Lib.hid hcall
  clear hcall h1 h2 h3 h4 hx
  go_enter Tryz.func101, Tryz.ntmps101
  go_wp2_with (go_at_fn fn; refine HC.out.mono ?_; rintro e w2 ⟨n', rfl, hX, hs, hn'⟩; have HX := Lib.hid hX; have HS := Lib.hid hs; have HN' := Lib.hid hn'; have ⟨hd9, hf9⟩ : w2.cell? ⟨b, 9, none⟩ = some (.int .i64 0) ∧ w2.frozen? ⟨b, 9, none⟩ = false := (by obtain ⟨_, nv', f', x', r1, _⟩ := hX; exact ⟨r1.c9, r1.fr 9⟩); clear hX hs hn')
  go_ret
  exact ⟨n', rfl, HX.out.status _, HS.out.trans (.setCell _ (.inl rfl) _), HN'.out⟩
set_option maxHeartbeats 1000000 in
/-- it is told nothing more -/
theorem hput_done {l : Hd.L} {s : Hd.S} (T : Int) (ht : T ≠ 0) (c : Int) (w : World) (b n : Nat) (h : HdX T w b n l s) :
    Calls Tryz.prog 101 #[.pointer (some ⟨b, 0, none⟩), .int .u8 c] w fun e w' => e = .returned (.int .i64 T) ∧ w = w' := by
  obtain ⟨_, nv, f, x, h1, h2, h3, h4⟩ := h
  have hc9 := h1.c9
  have ht' : (T == 0) = false := by simpa using ht
  clear ht h1 h2 h3 h4
  go_enter Tryz.func101, Tryz.ntmps101
  go_wp2
  go_ret
  exact ⟨rfl, rfl⟩
theorem Hd.st_open {s : Hd.S} (h : s.p ≤ 3) : Hd.st s = 0 := by unfold Hd.st; rw [if_neg (by omega), if_neg (by omega)]
theorem hput_any {l : Hd.L} (hl : l.Ok) {s : Hd.S} (hG : Hd.Good l s) (c : Int) (c0 : 0 ≤ c) (c1 : c ≤ 255) (w : World) (b n : Nat) (h : HdX (Hd.st s) w b n l s) :
    Calls Tryz.prog 101 #[.pointer (some ⟨b, 0, none⟩), .int .u8 c] w (HPutR w b n l (Hd.put l s c)) := by
  have hp5 := hG.1
  by_cases hp : s.p ≤ 3
  · rw [Hd.st_open hp] at h
    have hcase : s.p = 0 ∨ s.p = 1 ∨ s.p = 2 ∨ s.p = 3 := by omega
    rcases hcase with hp0 | hp0 | hp0 | hp0
    · refine hput_go hp c w b n h 138 enH1 (by rw [hp0]; rfl) ?_
      by_cases hc : c = 80
      · subst hc; exact first_yes hl hG hp0 w b n h
      · exact first_no hl hG hp0 c c0 c1 hc w b n h
    · refine hput_go hp c w b n h 177 enH2 (by rw [hp0]; rfl) ?_
      by_cases hc : 49 ≤ c ∧ c ≤ 54
      · exact second_yes hl hG hp0 c hc.1 hc.2 w b n h
      · exact second_no hl hG hp0 c c0 c1 hc w b n h
    · refine hput_go hp c w b n h 196 enH3 (by rw [hp0]; rfl) ?_
      cases hb : Tk.blank c with
      | true => exact third_go hl hG hp0 c c0 c1 (.inl hb) true hb (.inl rfl) w b n h
      | false =>
        by_cases hc : c = 35
        · exact third_go hl hG hp0 c c0 c1 (.inr hc) false hb (.inr ⟨rfl, hc⟩) w b n h
        · exact third_no hl hG hp0 c c0 c1 hb hc w b n h
    · refine hput_go hp c w b n h 211 enHN (by rw [hp0]; rfl) ?_
      have hs : Hd.put l s c = Hd.inNum l s c := by unfold Hd.put; rw [if_neg (by omega), if_neg (by omega), if_neg (by omega), if_pos hp0]
      rw [hs]
      exact inNum_any hl hG hp0 c c0 c1 w b n h
  · have hs : Hd.put l s c = s := by unfold Hd.put; rw [if_neg (by omega), if_neg (by omega), if_neg (by omega), if_neg (by omega)]
    rw [hs]
    have h0 : Hd.st s ≠ 0 := by
      unfold Hd.st
      split
      · decide
      · rw [if_pos (by omega)]; decide
    refine (hput_done (Hd.st s) h0 c w b n h).mono ?_
    rintro e w' ⟨rfl, rfl⟩
    exact ⟨n, rfl, h, .refl _ _, .inl rfl⟩
set_option maxRecDepth 100000 in
set_option maxHeartbeats 2000000 in
theorem head_over {w : World} {b n : Nat} {l : Hd.L} {s : Hd.S} (h : HdX 1 w b n l s) :
    Calls Tryz.prog 102 #[.pointer (some ⟨b, 0, none⟩)] w fun e w' => e = .returned (.tuple #[agH (Hd.hd s), .int .i64 0]) ∧ Below w.heap.size w w' := by
  obtain ⟨_, nv, f, x, h1, h2, h3, h4⟩ := h
  have hc9 := h1.c9
  have hc0 := h1.c0
  have hc4 := h1.c4
  have hc5 := h1.c5
  have hc6 := h1.c6
  have hlt := h1.lt
  clear h1 h2 h3 h4
  unfold agH Hd.hd
  go_enter Tryz.func102, Tryz.ntmps102
  go_wp2_with fail
  have hBa : Below w.heap.size w (w.alloc (.cells #[.int .i64 0, .int .i64 0, .int .i64 0, .int .i64 0] 62)) := (Below.refl _ w).alloc (Nat.le_refl _) _
  have m9 := cell_later hBa hc9
  have m0 := cell_later hBa hc0
  have m4 := cell_later hBa hc4
  have m5 := cell_later hBa hc5
  have m6 := cell_later hBa hc6
  have hne : ¬ b = w.heap.size := Nat.ne_of_lt hlt
  go_region_held3 (fun w' => w'.cell? ⟨b, 0, none⟩ = some (.int .i64 s.kd) ∧ w'.cell? ⟨b, 4, none⟩ = some (.int .i64 s.v0) ∧ w'.cell? ⟨b, 5, none⟩ = some (.int .i64 s.v1) ∧ w'.cell? ⟨b, 6, none⟩ = some (.int .i64 s.v2)) (first | exact ⟨m0, m4, m5, m6⟩ | go_keep) (fail)
  go_wp2
  go_returns
  exact ⟨rfl, by go_grown⟩
set_option maxHeartbeats 2000000 in
theorem head_wrong {w : World} {b n : Nat} {l : Hd.L} {s : Hd.S} (hp : s.p = 5) (h : HdX 2 w b n l s) :
    Calls Tryz.prog 102 #[.pointer (some ⟨b, 0, none⟩)] w fun e w' => e = .returned (.tuple #[agH Hd.none, .int .i64 s.e]) ∧ Below w.heap.size w w' := by
  obtain ⟨_, nv, f, x, h1, h2, h3, h4⟩ := h
  obtain rfl := h4 hp
  have hc9 := h1.c9
  have hc10 := h1.c10
  obtain ⟨e, he⟩ : ∃ e, s.e = e := ⟨_, rfl⟩
  rw [he] at hc10 ⊢
  have hlt := h1.lt
  clear h1 h2 h3 h4 he
  unfold agH Hd.none
  go_enter Tryz.func102, Tryz.ntmps102
  go_wp2_with fail
  go_region_with (fail)
  all_goals
    go_wp2
    go_returns
    exact ⟨rfl, by go_grown⟩
set_option maxHeartbeats 2000000 in
theorem head_more {w : World} {b n : Nat} {l : Hd.L} {s : Hd.S} (h : HdX 0 w b n l s) :
    Calls Tryz.prog 102 #[.pointer (some ⟨b, 0, none⟩)] w fun e w' => e = .returned (.tuple #[agH Hd.none, .int .i64 9]) ∧ Below w.heap.size w w' := by
  obtain ⟨_, nv, f, x, h1, h2, h3, h4⟩ := h
  have hc9 := h1.c9
  have hlt := h1.lt
  clear h1 h2 h3 h4
  unfold agH Hd.none
  go_enter Tryz.func102, Tryz.ntmps102
  go_wp2
  go_returns
  exact ⟨rfl, by go_grown⟩
theorem head_s {w : World} {b n : Nat} {l : Hd.L} {s : Hd.S} (h : HdX (Hd.st s) w b n l s) :
    Calls Tryz.prog 102 #[.pointer (some ⟨b, 0, none⟩)] w fun e w' => e = .returned (.tuple #[agH (Hd.val s).1, .int .i64 (Hd.val s).2]) ∧ Below w.heap.size w w' := by
  have hp5 := h.1.1
  by_cases h4 : s.p = 4
  · have e1 : Hd.st s = 1 := by unfold Hd.st; rw [if_pos h4]
    have e2 : Hd.val s = (Hd.hd s, 0) := by unfold Hd.val; rw [if_pos h4]
    rw [e1] at h
    rw [e2]; exact head_over h
  by_cases h5 : s.p = 5
  · have e1 : Hd.st s = 2 := by unfold Hd.st; rw [if_neg h4, if_pos h5]
    have e2 : Hd.val s = (Hd.none, s.e) := by unfold Hd.val; rw [if_neg h4, if_pos h5]
    rw [e1] at h
    rw [e2]; exact head_wrong h5 h
  · have e2 : Hd.val s = (Hd.none, 9) := by unfold Hd.val; rw [if_neg h4, if_neg h5]
    rw [Hd.st_open (by omega)] at h
    rw [e2]; exact head_more h
end Go.Proofs.YtooilemglmndeaaGreat

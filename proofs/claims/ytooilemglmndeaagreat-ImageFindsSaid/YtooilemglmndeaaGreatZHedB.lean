/- A reader of a head: its parts, over any memory. Condition: its limits are such as may be. -/
import Derived.Test.YtooilemglmndeaaGreatZgAB
namespace Go.Proofs.YtooilemglmndeaaGreat
open Go.RowKit
set_option linter.unusedVariables false

def nxP (p b : Nat) : Value := if p = 0 then nxH1 b else if p = 1 then nxH2 b else if p = 2 then nxH3 b else nxHN b
/-- a reader of a head in the block b, its number's reader in the block n, is where s says, its status T -/
def HdX (T : Int) (w : World) (b n : Nat) (l : Hd.L) (s : Hd.S) : Prop :=
  Hd.Good l s ∧ ∃ nv f x, HdC w b s.kd l.m0 l.m1 l.m2 s.v0 s.v1 s.v2 s.i nv T f x ∧ (s.p = 3 → nv = .pointer (some ⟨n, 0, none⟩) ∧ RdS w n (l.at s.i) s.t ∧ n ≠ b) ∧ (s.p ≤ 3 → x = nxP s.p b) ∧ (s.p = 5 → f = s.e)
def two (b n : Nat) : Nat → Prop := fun k => k = b ∨ k = n
/-- what a part of a reader hands back, and what its blocks hold then -/
def InR (w : World) (b n : Nat) (l : Hd.L) (s : Hd.S) (e : Ending) (w' : World) : Prop :=
  ∃ n', e = .returned (.int .i64 (Hd.st s)) ∧ HdX 0 w' b n' l s ∧ Sep (two b n) w w' ∧ (n' = n ∨ w.heap.size ≤ n')
theorem Sep.grown {Z : Nat → Prop} {w w' : World} {k : Nat} (hg : w.grownBy w' (some k)) (hz : Z k) : Sep Z w w' := ⟨hg.os, hg.tape, hg.output, hg.size, fun j hj hn => hg.block j hj (fun e => hn (by injection e with e; rw [e]; exact hz))⟩
theorem Sep.grownN {Z : Nat → Prop} {w w' : World} (hg : w.grownBy w' none) : Sep Z w w' := ⟨hg.os, hg.tape, hg.output, hg.size, fun j hj hn => hg.block j hj (by simp)⟩
theorem Sep.bel {Z : Nat → Prop} {w w' : World} (hb : Below w.heap.size w w') : Sep Z w w' := ⟨hb.os, hb.tape, hb.output, hb.size, fun j hj _ => hb.block j hj⟩
theorem HdX.lt {T : Int} {w : World} {b n : Nat} {l : Hd.L} {s : Hd.S} (h : HdX T w b n l s) : b < w.heap.size := by obtain ⟨_, nv, f, x, h1, _⟩ := h; exact h1.lt
theorem HdX.sep {T : Int} {w w' : World} {Z : Nat → Prop} {b n : Nat} {l : Hd.L} {s : Hd.S} (h : HdX T w b n l s) (hs : Sep Z w w') (hb : ¬ Z b) (hn : ¬ Z n) : HdX T w' b n l s := by
  obtain ⟨hG, nv, f, x, h1, h2, h3, h4⟩ := h
  refine ⟨hG, nv, f, x, h1.sep hs hb, fun hp => ?_, h3, h4⟩
  obtain ⟨a1, a2, a3⟩ := h2 hp
  refine ⟨a1, ?_, a3⟩
  obtain ⟨g, v, f', x', r1, r2⟩ := a2
  exact ⟨g, v, f', x', (hs.block n r1.lt hn).trans r1, r2⟩
theorem HdX.later {T : Int} {w w' : World} {b n : Nat} {l : Hd.L} {s : Hd.S} (h : HdX T w b n l s) (hb : Below w.heap.size w w') : HdX T w' b n l s :=
  h.sep (Z := fun _ => False) (.bel hb) (fun h => h) (fun h => h)
set_option maxHeartbeats 1000000 in
theorem hwrong_any (w : World) (b : Nat) (kd m0 m1 m2 v0 v1 v2 i : Int) (nv : Value) (t f : Int) (x : Value) (h : HdC w b kd m0 m1 m2 v0 v1 v2 i nv t f x) (e : Int) :
    Calls Tryz.prog 176 #[.pointer (some ⟨b, 0, none⟩), .int .i64 e] w fun r w' => r = .returned (.int .i64 2) ∧ HdC w' b kd m0 m1 m2 v0 v1 v2 i nv t e x ∧ w.grownBy w' (some b) := by
  have hc := h.c10
  have hf := h.fr 10
  go_enter Tryz.func176, Tryz.ntmps176
  go_wp2
  go_ret
  exact ⟨rfl, h.put10 _, grown_set _ _ _ _⟩
set_option maxHeartbeats 2000000 in
theorem hbegin0_any (w : World) (b : Nat) (kd m0 m1 m2 v0 v1 v2 : Int) (nv : Value) (t f : Int) (x : Value) (h : HdC w b kd m0 m1 m2 v0 v1 v2 0 nv t f x) (hm : 0 ≤ m0) :
    Calls Tryz.prog 210 #[.pointer (some ⟨b, 0, none⟩)] w fun r w' => r = .returned (.tuple #[]) ∧ HdC w' b kd m0 m1 m2 v0 v1 v2 0 (.pointer (some ⟨w.heap.size, 0, none⟩)) t f x ∧ RdS w' w.heap.size m0 Tk.new ∧ w.grownBy w' (some b) := by
  have hc7 := h.c7
  have hc := h.c1
  have hlt := h.lt
  have HT := Lib.hid (fun W => tokNew_s m0 hm W)
  clear hm
  go_enter Tryz.func210, Tryz.ntmps210
  go_wp2_with fail
  go_region_with (go_at_call 218; refine (HT.out _).mono ?_; rintro e w1 ⟨rfl, hR, hB⟩; have h2 : HdC w1 b kd m0 m1 m2 v0 v1 v2 0 nv t f x := (show HdC w.drew b kd m0 m1 m2 v0 v1 v2 0 nv t f x from h).later hB; have hd8 := h2.c8; have hf8 := h2.fr 8)
  all_goals
    go_wp2
    go_end0
    exact ⟨rfl, h2.put8 _, hR.kept (grown_set _ _ _ _) (by intro e; injection e with e; exact Nat.ne_of_lt hlt e.symm), ((show w.grownBy w.drew (some b) from grown_drew w 1 _).trans ⟨hB.os, hB.tape, hB.output, hB.size, fun k hk _ => hB.block k hk⟩).trans (grown_set _ _ _ _)⟩
set_option maxHeartbeats 2000000 in
theorem hbegin1_any (w : World) (b : Nat) (kd m0 m1 m2 v0 v1 v2 : Int) (nv : Value) (t f : Int) (x : Value) (h : HdC w b kd m0 m1 m2 v0 v1 v2 1 nv t f x) (hm : 0 ≤ m1) :
    Calls Tryz.prog 210 #[.pointer (some ⟨b, 0, none⟩)] w fun r w' => r = .returned (.tuple #[]) ∧ HdC w' b kd m0 m1 m2 v0 v1 v2 1 (.pointer (some ⟨w.heap.size, 0, none⟩)) t f x ∧ RdS w' w.heap.size m1 Tk.new ∧ w.grownBy w' (some b) := by
  have hc7 := h.c7
  have hc := h.c2
  have hlt := h.lt
  have HT := Lib.hid (fun W => tokNew_s m1 hm W)
  clear hm
  go_enter Tryz.func210, Tryz.ntmps210
  go_wp2_with fail
  go_region_with (go_at_call 218; refine (HT.out _).mono ?_; rintro e w1 ⟨rfl, hR, hB⟩; have h2 : HdC w1 b kd m0 m1 m2 v0 v1 v2 1 nv t f x := (show HdC w.drew b kd m0 m1 m2 v0 v1 v2 1 nv t f x from h).later hB; have hd8 := h2.c8; have hf8 := h2.fr 8)
  all_goals
    go_wp2
    go_end0
    exact ⟨rfl, h2.put8 _, hR.kept (grown_set _ _ _ _) (by intro e; injection e with e; exact Nat.ne_of_lt hlt e.symm), ((show w.grownBy w.drew (some b) from grown_drew w 1 _).trans ⟨hB.os, hB.tape, hB.output, hB.size, fun k hk _ => hB.block k hk⟩).trans (grown_set _ _ _ _)⟩
set_option maxHeartbeats 2000000 in
theorem hbegin2_any (w : World) (b : Nat) (kd m0 m1 m2 v0 v1 v2 : Int) (nv : Value) (t f : Int) (x : Value) (h : HdC w b kd m0 m1 m2 v0 v1 v2 2 nv t f x) (hm : 0 ≤ m2) :
    Calls Tryz.prog 210 #[.pointer (some ⟨b, 0, none⟩)] w fun r w' => r = .returned (.tuple #[]) ∧ HdC w' b kd m0 m1 m2 v0 v1 v2 2 (.pointer (some ⟨w.heap.size, 0, none⟩)) t f x ∧ RdS w' w.heap.size m2 Tk.new ∧ w.grownBy w' (some b) := by
  have hc7 := h.c7
  have hc := h.c3
  have hlt := h.lt
  have HT := Lib.hid (fun W => tokNew_s m2 hm W)
  clear hm
  go_enter Tryz.func210, Tryz.ntmps210
  go_wp2_with fail
  go_region_with (go_at_call 218; refine (HT.out _).mono ?_; rintro e w1 ⟨rfl, hR, hB⟩; have h2 : HdC w1 b kd m0 m1 m2 v0 v1 v2 2 nv t f x := (show HdC w.drew b kd m0 m1 m2 v0 v1 v2 2 nv t f x from h).later hB; have hd8 := h2.c8; have hf8 := h2.fr 8)
  all_goals
    go_wp2
    go_end0
    exact ⟨rfl, h2.put8 _, hR.kept (grown_set _ _ _ _) (by intro e; injection e with e; exact Nat.ne_of_lt hlt e.symm), ((show w.grownBy w.drew (some b) from grown_drew w 1 _).trans ⟨hB.os, hB.tape, hB.output, hB.size, fun k hk _ => hB.block k hk⟩).trans (grown_set _ _ _ _)⟩
end Go.Proofs.YtooilemglmndeaaGreat

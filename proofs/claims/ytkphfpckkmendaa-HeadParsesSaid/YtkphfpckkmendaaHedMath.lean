/- Plain facts on what an image begins with: a reader of a head as a plain function, the head that a text begins with. No condition. -/
import Derived.Test.YtkphfpckkmendaaTokMath
namespace Go.Proofs.Ytkphfpckkmendaa
open Go.RowKit
set_option linter.unusedVariables false
namespace Hd
/-- brought to where it may be: from 1 to hi -/
def lim (n hi : Int) : Int := if n < 1 then 1 else if hi < n then hi else n
theorem lim_at {n hi : Int} (h : 1 ≤ hi) : 1 ≤ lim n hi ∧ lim n hi ≤ hi := by
  unfold lim; split
  · omega
  · split <;> omega
/-- the greatest numbers -/
structure L where
  m0 : Int
  m1 : Int
  m2 : Int
def L.at (l : L) (i : Nat) : Int := if i = 0 then l.m0 else if i = 1 then l.m1 else l.m2
def L.Ok (l : L) : Prop := (1 ≤ l.m0 ∧ l.m0 ≤ 65536) ∧ (1 ≤ l.m1 ∧ l.m1 ≤ 65536) ∧ (1 ≤ l.m2 ∧ l.m2 ≤ 65536)
theorem L.at_ok {l : L} (h : l.Ok) (i : Nat) : 1 ≤ l.at i ∧ l.at i ≤ 65536 := by
  obtain ⟨h1, h2, h3⟩ := h
  unfold L.at; split
  · exact h1
  · split
    · exact h2
    · exact h3
def limits (w h m : Int) : L := ⟨lim w 4096, lim h 65536, lim m 65535⟩
theorem limits_ok (w h m : Int) : (limits w h m).Ok := by
  have a := lim_at (n := w) (hi := 4096) (by omega)
  have b := lim_at (n := h) (hi := 65536) (by omega)
  have c := lim_at (n := m) (hi := 65535) (by omega)
  exact ⟨⟨a.1, by simp only [limits]; omega⟩, ⟨b.1, b.2⟩, ⟨c.1, by simp only [limits]; omega⟩⟩
/-- a reader: how far it is (0 ahead, 1 behind P, 2 behind the kind, 3 in a number, 4 over, 5 wrong), the kind, how many numbers are over, these, the number's reader, the error -/
structure S where
  p : Nat
  kd : Int
  i : Nat
  v0 : Int
  v1 : Int
  v2 : Int
  t : Tk.S
  e : Int
/-- a head -/
structure H where
  kd : Int
  w : Int
  h : Int
  m : Int
def none : H := ⟨0, 0, 0, 0⟩
def new : S := ⟨0, 0, 0, 0, 0, 1, Tk.new, 0⟩
def bits (kd : Int) : Bool := decide (kd = 1 ∨ kd = 4)
def many (kd : Int) : Nat := if bits kd = true then 2 else 3
def S.wrong (s : S) (e : Int) : S := ⟨5, s.kd, s.i, s.v0, s.v1, s.v2, s.t, e⟩
def S.tok (s : S) (t : Tk.S) : S := ⟨3, s.kd, s.i, s.v0, s.v1, s.v2, t, s.e⟩
/-- a number more -/
def S.num (s : S) (n : Int) : S :=
  ⟨if s.i + 1 = many s.kd then 4 else 3, s.kd, s.i + 1, if s.i = 0 then n else s.v0, if s.i = 1 then n else s.v1, if 2 ≤ s.i then n else s.v2, Tk.new, s.e⟩
/-- what it is when its number's reader is where t says -/
def take (s : S) (t : Tk.S) : S :=
  if t.k = 5 then s.wrong t.e
  else if t.k = 4 then (if t.n = 0 then s.wrong 4 else s.num t.n)
  else s.tok t
def inNum (l : L) (s : S) (c : Int) : S := take s (Tk.put (l.at s.i) s.t c)
def put (l : L) (s : S) (c : Int) : S :=
  if s.p = 0 then (if c = 80 then ⟨1, s.kd, s.i, s.v0, s.v1, s.v2, s.t, s.e⟩ else s.wrong 2)
  else if s.p = 1 then (if 49 ≤ c ∧ c ≤ 54 then ⟨2, c - 48, s.i, s.v0, s.v1, s.v2, s.t, s.e⟩ else s.wrong 2)
  else if s.p = 2 then (if Tk.blank c = true ∨ c = 35 then inNum l s c else s.wrong 3)
  else if s.p = 3 then inNum l s c
  else s
def st (s : S) : Int := if s.p = 4 then 1 else if s.p = 5 then 2 else 0
def hd (s : S) : H := ⟨s.kd, s.v0, s.v1, s.v2⟩
/-- the head, and its error -/
def val (s : S) : H × Int := if s.p = 4 then (hd s, 0) else if s.p = 5 then (none, s.e) else (none, 9)
/-- told the rest of a text, i bytes in: the head, how many bytes it took, the error -/
def parseF (l : L) : S → Nat → List Int → H × Int × Int
  | s, i, [] => if s.p = 4 then (hd s, (i : Int), 0) else if s.p = 5 then (none, (i : Int), s.e) else (none, (i : Int), 6)
  | s, i, c :: cs => if s.p = 4 then (hd s, (i : Int), 0) else if s.p = 5 then (none, (i : Int), s.e) else parseF l (put l s c) (i + 1) cs
def parseV (l : L) (x : List Int) : H × Int × Int := parseF l new 0 x
theorem parse_over {l : L} {s : S} (i : Nat) (x : List Int) (h : s.p = 4) : parseF l s i x = (hd s, (i : Int), 0) := by cases x <;> rw [parseF, if_pos h]
theorem parse_wrong {l : L} {s : S} (i : Nat) (x : List Int) (h : s.p = 5) : parseF l s i x = (none, (i : Int), s.e) := by cases x <;> rw [parseF, if_neg (by omega), if_pos h]
theorem parse_nil {l : L} {s : S} (i : Nat) (h : s.p ≤ 3) : parseF l s i [] = (none, (i : Int), 6) := by rw [parseF, if_neg (by omega), if_neg (by omega)]
theorem parse_cons {l : L} {s : S} (i : Nat) (c : Int) (cs : List Int) (h : s.p ≤ 3) : parseF l s i (c :: cs) = parseF l (put l s c) (i + 1) cs := by rw [parseF, if_neg (by omega), if_neg (by omega)]
/-- what is so of each reader -/
def Good (l : L) (s : S) : Prop :=
  s.p ≤ 5 ∧ (s.p ≤ 3 → Tk.Good (l.at s.i) s.t ∧ s.t.k ≤ 3) ∧ (s.p ≤ 2 → s.i = 0 ∧ s.v0 = 0 ∧ s.v1 = 0 ∧ s.v2 = 1 ∧ s.t = Tk.new) ∧ (s.p ≤ 1 → s.kd = 0) ∧ (2 ≤ s.p → s.p ≤ 4 → 1 ≤ s.kd ∧ s.kd ≤ 6) ∧ (s.p ≤ 3 → s.i < many s.kd) ∧ (s.p = 5 → (s.e = 2 ∨ s.e = 3 ∨ s.e = 4)) ∧ s.i ≤ 3
theorem many_at (kd : Int) : many kd = 2 ∨ many kd = 3 := by unfold many; split <;> simp
theorem good_new {l : L} (h : l.Ok) : Good l new := by
  have := L.at_ok h 0
  refine ⟨by decide, fun _ => ⟨Tk.good_new (by show (0 : Int) ≤ l.at 0; omega), by decide⟩, fun _ => ⟨rfl, rfl, rfl, rfl, rfl⟩, fun _ => rfl, fun h => absurd h (by decide), fun _ => by have := many_at (0 : Int); show 0 < many 0; omega, fun h => absurd h (by decide), by decide⟩
theorem good_wrong {l : L} {s : S} (hi : s.i ≤ 3) {e : Int} (he : e = 2 ∨ e = 3 ∨ e = 4) : Good l (s.wrong e) :=
  ⟨Nat.le_refl 5, fun h => absurd h (by simp [S.wrong]), fun h => absurd h (by simp [S.wrong]), fun h => absurd h (by simp [S.wrong]), fun _ h => absurd h (by simp [S.wrong]), fun h => absurd h (by simp [S.wrong]), fun _ => he, hi⟩
theorem good_take {l : L} (hl : l.Ok) {s : S} (hk : 1 ≤ s.kd ∧ s.kd ≤ 6) (hi : s.i < many s.kd) {t : Tk.S} (ht : Tk.Good (l.at s.i) t) : Good l (take s t) := by
  have hm := many_at s.kd
  unfold take
  split
  · rename_i h5; exact good_wrong (by omega) (.inr (ht.2.2.2.2.2.1 h5))
  split
  · split
    · exact good_wrong (by omega) (.inr (.inr rfl))
    · unfold S.num
      by_cases h : s.i + 1 = many s.kd
      · rw [if_pos h]
        exact ⟨by simp, fun h => absurd h (by simp), fun h => absurd h (by simp), fun h => absurd h (by simp), fun _ _ => hk, fun h => absurd h (by simp), fun h => absurd h (by simp), by simp only []; omega⟩
      · rw [if_neg h]
        have := L.at_ok hl (s.i + 1)
        exact ⟨by simp, fun _ => ⟨Tk.good_new (by simp only []; omega), Nat.zero_le _⟩, fun h => absurd h (by simp), fun h => absurd h (by simp), fun _ _ => hk, fun _ => by simp only []; omega, fun h => absurd h (by simp), by simp only []; omega⟩
  · rename_i h5 h4
    have := ht.1
    exact ⟨by simp [S.tok], fun _ => ⟨ht, by show t.k ≤ 3; omega⟩, fun h => absurd h (by simp [S.tok]), fun h => absurd h (by simp [S.tok]), fun _ _ => hk, fun _ => hi, fun h => absurd h (by simp [S.tok]), by show s.i ≤ 3; omega⟩
theorem good_put {l : L} (hl : l.Ok) {s : S} (h : Good l s) (c : Int) : Good l (put l s c) := by
  obtain ⟨h1, h2, h3, h4, h5, h6, h7, h8⟩ := h
  unfold put
  split
  · rename_i hp
    obtain ⟨a1, a2, a3, a4, a5⟩ := h3 (by omega)
    split
    · exact ⟨by simp, fun _ => h2 (by omega), fun _ => ⟨a1, a2, a3, a4, a5⟩, fun _ => h4 (by omega), fun h => absurd h (by simp), fun _ => h6 (by omega), fun h => absurd h (by simp), h8⟩
    · exact good_wrong h8 (.inl rfl)
  split
  · rename_i hp0 hp
    obtain ⟨a1, a2, a3, a4, a5⟩ := h3 (by omega)
    split
    · rename_i hc
      exact ⟨by simp, fun _ => h2 (by omega), fun _ => ⟨a1, a2, a3, a4, a5⟩, fun h => absurd h (by simp), fun _ _ => by simp only []; omega, fun _ => by have := many_at (c - 48); simp only []; omega, fun h => absurd h (by simp), h8⟩
    · exact good_wrong h8 (.inl rfl)
  split
  · rename_i hp0 hp1 hp
    split
    · exact good_take hl (h5 (by omega) (by omega)) (h6 (by omega)) (Tk.good_put (h2 (by omega)).1 c)
    · exact good_wrong h8 (.inr (.inl rfl))
  split
  · exact good_take hl (h5 (by omega) (by omega)) (h6 (by omega)) (Tk.good_put (h2 (by omega)).1 c)
  · exact ⟨h1, h2, h3, h4, h5, h6, h7, h8⟩
/-- what a text's head comes to, told while a reader is told it -/
theorem parse_ends {l : L} (hl : l.Ok) : ∀ (x : List Int) (s : S) (i : Nat), Good l s → s.p ≤ 3 → (i : Int) ≤ (parseF l s i x).2.1 ∧ ((parseF l s i x).2.2 ≠ 6 → (i : Int) + 1 ≤ (parseF l s i x).2.1) ∧ ((parseF l s i x).2.2 = 0 ∨ (parseF l s i x).2.2 = 2 ∨ (parseF l s i x).2.2 = 3 ∨ (parseF l s i x).2.2 = 4 ∨ (parseF l s i x).2.2 = 6)
  | [], s, i, h, hp => by rw [parse_nil i hp]; simp
  | c :: cs, s, i, h, hp => by
    rw [parse_cons i c cs hp]
    have hg := good_put hl h c
    by_cases h4 : (put l s c).p = 4
    · rw [parse_over _ _ h4]; simp; omega
    by_cases h5 : (put l s c).p = 5
    · rw [parse_wrong _ _ h5]
      have := hg.2.2.2.2.2.2.1 h5
      simp only []; omega
    · have := hg.1
      have h := parse_ends hl cs (put l s c) (i + 1) hg (by omega)
      omega
end Hd
end Go.Proofs.Ytkphfpckkmendaa

/- A head's bytes, and what a reader says of them: plain facts. No condition. -/
import Derived.Test.YtkphfpckkmendaaHedMath
import Derived.Test.YtkphfpckkmendaaTokP
namespace Go.Proofs.Ytkphfpckkmendaa
open Go.RowKit
set_option linter.unusedVariables false
namespace Hd
theorem take_more {s : S} {t : Tk.S} (h : t.k ≤ 3) : take s t = s.tok t := by unfold take; rw [if_neg (by omega), if_neg (by omega)]
theorem take_over {s : S} {k : Int} (h : k ≠ 0) {b : Bool} {e : Int} : take s ⟨4, k, e, b⟩ = s.num k := by
  unfold take; rw [if_neg (by simp), if_pos rfl, if_neg h]
theorem take_wrong {s : S} {t : Tk.S} (h : t.k = 5) : take s t = s.wrong t.e := by unfold take; rw [if_pos h]
theorem put_in {l : L} {s : S} {c : Int} (h : s.p = 3) : put l s c = take s (Tk.put (l.at s.i) s.t c) := by
  unfold put; rw [if_neg (by omega), if_neg (by omega), if_neg (by omega), if_pos h]; rfl
theorem tok_tok (s : S) (t u : Tk.S) : (s.tok t).tok u = s.tok u := rfl
theorem tok_self {s : S} (h : s.p = 3) : s.tok s.t = s := by
  obtain ⟨p, kd, i, v0, v1, v2, t, e⟩ := s
  have : p = 3 := h
  subst this; rfl
/-- told what its number's reader goes on with it goes on -/
theorem parse_runs {l : L} : ∀ (x : List Int) (s : S) (i : Nat) (r : List Int) {t : Tk.S}, s.p = 3 → Tk.runs (l.at s.i) s.t x t → parseF l s i (x ++ r) = parseF l (s.tok t) (i + x.length) r
  | [], s, i, r, t, hp, h => by
    have h' : s.t = t := h
    rw [← h', tok_self hp]; rfl
  | c :: cs, s, i, r, t, hp, h => by
    have h1 := h.1
    rw [List.cons_append, parse_cons i c _ (by omega), put_in hp, take_more h1]
    have := parse_runs (l := l) cs (s.tok (Tk.put (l.at s.i) s.t c)) (i + 1) r (t := t) rfl h.2
    rw [this, tok_tok, List.length_cons, show i + 1 + cs.length = i + (cs.length + 1) by omega]
/-- behind the kind a number's reader begins -/
theorem parse_third {l : L} {s : S} (hp : s.p = 2) (i : Nat) {c : Int} (hc : Tk.blank c = true ∨ c = 35) (cs : List Int) : parseF l s i (c :: cs) = parseF l (s.tok s.t) i (c :: cs) := by
  rw [parse_cons i c cs (by omega), parse_cons i c cs (by show (3 : Nat) ≤ 3; omega), put_in (s := s.tok s.t) rfl]
  congr 1
  unfold put
  rw [if_neg (by omega), if_neg (by omega), if_pos hp, if_pos hc]
  unfold inNum take
  rfl
/-- the blank behind a number's digits -/
theorem parse_ends_num {l : L} {s : S} {k : Int} (h : k ≠ 0) (i : Nat) {c : Int} (hc : Tk.blank c = true) (cs : List Int) : parseF l (s.tok ⟨2, k, 9, true⟩) i (c :: cs) = parseF l (s.num k) (i + 1) cs := by
  rw [parse_cons i c cs (by show (3 : Nat) ≤ 3; omega), put_in rfl]
  congr 1
  show take (s.tok _) (Tk.put (l.at s.i) ⟨2, k, 9, true⟩ c) = _
  rw [Tk.put_end hc, take_over h]; rfl
/-- a number and a blank -/
theorem parse_num {l : L} {s : S} (hp : s.p = 3) (ht : s.t = Tk.new) {k : Int} (h0 : 1 ≤ k) (h1 : k ≤ l.at s.i) (i : Nat) {c : Int} (hc : Tk.blank c = true) (r : List Int) :
    parseF l s i (Nu.decV k ++ (c :: r)) = parseF l (s.num k) (i + (Nu.decV k).length + 1) r := by
  rw [parse_runs _ s i _ hp (by rw [ht]; exact Tk.digs_runs _ (Tk.digs_dec (by omega) h1)), parse_ends_num (by omega) _ hc]
/-- a number that is too great -/
theorem parse_great {l : L} {r : List Int} {e : Int} (he : e ≠ 0) : ∀ (x : List Int) (s : S) (i : Nat), (∀ c ∈ x, 48 ≤ c ∧ c ≤ 57) → s.p = 3 → (s.t.k = 0 ∨ s.t.k = 2) → s.t.e = 9 → (Nu.parseF (l.at s.i) s.t.n x).2 = e → (parseF l s i (x ++ r)).2.2 = e
  | [], s, i, hd, hp, hk, h9, h => absurd h.symm he
  | c :: cs, s, i, hd, hp, hk, h9, h => by
    have hcd := hd c (by simp)
    rw [Nu.parseF] at h
    rw [List.cons_append, parse_cons i c _ (by omega), put_in hp]
    by_cases hs : (Nu.stepV s.t.n c (l.at s.i)).2 = 0
    · rw [if_pos hs] at h
      rw [Tk.put_digit hk h9 hs, take_more (by simp)]
      exact parse_great he cs _ _ (fun d hd' => hd d (by simp [hd'])) rfl (.inr rfl) rfl h
    · rw [if_neg hs] at h
      have hb : ¬ Tk.blank c = true := by unfold Tk.blank; simp; omega
      have h5 : Tk.put (l.at s.i) s.t c = ⟨5, 0, (Nu.stepV s.t.n c (l.at s.i)).2, s.t.bg⟩ := by
        unfold Tk.put
        rw [if_neg (by omega), if_neg (by omega), if_neg (by omega), if_neg (by omega), if_neg hb, if_neg hs]
      rw [h5, take_wrong rfl, parse_wrong _ _ rfl]
      exact h
theorem dec_digits {k : Int} (h : 0 ≤ k) : ∀ c ∈ Nu.decV k, 48 ≤ c ∧ c ≤ 57 := by
  intro c hc
  rw [Nu.decV_up h, List.mem_reverse] at hc
  obtain ⟨d, hd, rfl⟩ := List.mem_map.1 hc
  have := Nu.dig_lt (b := 10) (by omega) _ d hd
  omega
theorem parse_dec_great {l : L} {s : S} (hp : s.p = 3) (ht : s.t = Tk.new) {k : Int} (h0 : 0 ≤ k) (h1 : l.at s.i < k) (hl : 0 ≤ l.at s.i) (i : Nat) (r : List Int) : (parseF l s i (Nu.decV k ++ r)).2.2 = 4 := by
  refine parse_great (by decide) _ _ _ (dec_digits h0) hp (by rw [ht]; exact .inl rfl) (by rw [ht]; rfl) ?_
  rw [ht]
  show (Nu.parseF _ 0 _).2 = 4
  rw [Nu.decV_up h0, Nu.parse_dig _ hl k h0, if_neg (by omega)]
/-- what a head may be -/
def May (h : H) : Prop := (1 ≤ h.kd ∧ h.kd ≤ 6) ∧ (1 ≤ h.w ∧ h.w ≤ 4096) ∧ (1 ≤ h.h ∧ h.h ≤ 65536) ∧ (1 ≤ h.m ∧ h.m ≤ 65535) ∧ (bits h.kd = true → h.m = 1)
instance (h : H) : Decidable (May h) := by unfold May; infer_instance
/-- a head's bytes -/
def bytes (h : H) : List Int := [80] ++ Nu.decV h.kd ++ [10] ++ Nu.decV h.w ++ [32] ++ Nu.decV h.h ++ [10] ++ (if bits h.kd = true then [] else Nu.decV h.m ++ [10])
/-- behind P and the kind -/
def s2 (kd : Int) : S := ⟨2, kd, 0, 0, 0, 1, Tk.new, 0⟩
def s3 (kd : Int) : S := ⟨3, kd, 0, 0, 0, 1, Tk.new, 0⟩
theorem parse_kind {l : L} {kd : Int} (h1 : 1 ≤ kd) (h6 : kd ≤ 6) (r : List Int) : parseF l new 0 (80 :: (Nu.decV kd ++ r)) = parseF l (s2 kd) 2 r := by
  rw [Nu.decV_pos (by omega) (by omega), parse_cons _ _ _ (by decide), List.singleton_append]
  have e1 : put l new 80 = ⟨1, 0, 0, 0, 0, 1, Tk.new, 0⟩ := rfl
  rw [e1, parse_cons _ _ _ (by decide)]
  congr 1
  unfold put
  rw [if_neg (by simp), if_pos rfl, if_pos (by omega), show 48 + kd - 48 = kd by omega]
  rfl
theorem num_over {s : S} {k : Int} (h : s.i + 1 = many s.kd) : (s.num k).p = 4 := by unfold S.num; rw [if_pos h]
theorem num_more {s : S} {k : Int} (h : s.i + 1 ≠ many s.kd) : (s.num k).p = 3 := by unfold S.num; rw [if_neg h]
theorem runs_blank {m c : Int} (h : Tk.blank c = true) : Tk.runs m Tk.new [c] Tk.new := by
  refine ⟨by rw [Tk.put_ahead h]; decide, ?_⟩
  rw [Tk.put_ahead h]; rfl
theorem s3_tok (kd : Int) : (s2 kd).tok (s2 kd).t = s3 kd := rfl
theorem many_bits {kd : Int} (h : bits kd = true) : many kd = 2 := by unfold many; rw [if_pos h]
theorem many_more {kd : Int} (h : bits kd ≠ true) : many kd = 3 := by unfold many; rw [if_neg h]
/-- a head's bytes are parsed as it was -/
theorem parse_bytes {l : L} {h : H} (hm : May h) (hw : h.w ≤ l.m0) (hh : h.h ≤ l.m1) (hx : bits h.kd = true ∨ h.m ≤ l.m2) (r : List Int) : parseV l (bytes h ++ r) = (h, ((bytes h).length : Int), 0) := by
  obtain ⟨kd, w, hh', m⟩ := h
  obtain ⟨⟨a1, a2⟩, ⟨b1, b2⟩, ⟨c1, c2⟩, ⟨d1, d2⟩, e1⟩ := hm
  simp only at a1 a2 b1 b2 c1 c2 d1 d2 e1 hw hh hx
  have bl10 : Tk.blank 10 = true := by decide
  have bl32 : Tk.blank 32 = true := by decide
  unfold parseV bytes
  simp only [List.append_assoc, List.cons_append, List.nil_append]
  rw [parse_kind a1 a2, parse_third rfl _ (.inl bl10), s3_tok]
  have r1 := parse_runs (l := l) [10] (s3 kd) 2 (Nu.decV w ++ (32 :: (Nu.decV hh' ++ (10 :: ((if bits kd = true then [] else Nu.decV m ++ [10]) ++ r))))) rfl (runs_blank bl10)
  rw [List.singleton_append] at r1
  rw [r1, show (s3 kd).tok Tk.new = s3 kd from rfl, parse_num (s := s3 kd) rfl rfl b1 hw _ bl32]
  have p1 : ((s3 kd).num w).p = 3 := num_more (by have := many_at kd; show 0 + 1 ≠ many kd; omega)
  have i1 : ((s3 kd).num w).i = 1 := rfl
  rw [parse_num (s := (s3 kd).num w) p1 rfl c1 (by rw [i1]; exact hh) _ bl10]
  by_cases hb : bits kd = true
  · rw [if_pos hb, parse_over _ _ (num_over (by rw [i1]; show 1 + 1 = many kd; rw [many_bits hb]))]
    obtain rfl : m = 1 := e1 hb
    refine Prod.ext rfl (Prod.ext ?_ rfl)
    rw [Nu.decV_pos (n := kd) (by omega) (by omega)]
    simp only [List.length_append, List.length_cons, List.length_nil]
    omega
  · rw [if_neg hb]
    have p2 : (((s3 kd).num w).num hh').p = 3 := num_more (by rw [i1]; show 1 + 1 ≠ many kd; rw [many_more hb]; decide)
    have i2 : (((s3 kd).num w).num hh').i = 2 := rfl
    rw [List.append_assoc, List.singleton_append, parse_num (s := ((s3 kd).num w).num hh') p2 rfl d1 (by rw [i2]; exact hx.resolve_left hb) _ bl10, parse_over _ _ (num_over (by rw [i2]; show 2 + 1 = many kd; rw [many_more hb]))]
    refine Prod.ext rfl (Prod.ext ?_ rfl)
    rw [Nu.decV_pos (n := kd) (by omega) (by omega)]
    simp only [List.length_append, List.length_cons, List.length_nil]
    omega
/-- a head beyond a limit -/
theorem parse_beyond {l : L} (hl : l.Ok) {h : H} (hm : May h) (hw : ¬ (h.w ≤ l.m0 ∧ h.h ≤ l.m1 ∧ (bits h.kd = true ∨ h.m ≤ l.m2))) : (parseV l (bytes h)).2.2 = 4 := by
  obtain ⟨kd, w, hh', m⟩ := h
  obtain ⟨⟨a1, a2⟩, ⟨b1, b2⟩, ⟨c1, c2⟩, ⟨d1, d2⟩, e1⟩ := hm
  obtain ⟨⟨l0, _⟩, ⟨l1, _⟩, ⟨l2, _⟩⟩ := hl
  simp only at a1 a2 b1 b2 c1 c2 d1 d2 e1 hw
  have bl10 : Tk.blank 10 = true := by decide
  have bl32 : Tk.blank 32 = true := by decide
  unfold parseV bytes
  simp only [List.append_assoc, List.cons_append, List.nil_append]
  rw [parse_kind a1 a2, parse_third rfl _ (.inl bl10), s3_tok]
  have r1 := parse_runs (l := l) [10] (s3 kd) 2 (Nu.decV w ++ (32 :: (Nu.decV hh' ++ (10 :: (if bits kd = true then [] else Nu.decV m ++ [10]))))) rfl (runs_blank bl10)
  rw [List.singleton_append] at r1
  rw [r1, show (s3 kd).tok Tk.new = s3 kd from rfl]
  by_cases h0 : w ≤ l.m0
  · rw [parse_num (s := s3 kd) rfl rfl b1 h0 _ bl32]
    have p1 : ((s3 kd).num w).p = 3 := num_more (by have := many_at kd; show 0 + 1 ≠ many kd; omega)
    have i1 : ((s3 kd).num w).i = 1 := rfl
    by_cases h1 : hh' ≤ l.m1
    · rw [parse_num (s := (s3 kd).num w) p1 rfl c1 (by rw [i1]; exact h1) _ bl10]
      have hb : ¬ bits kd = true := fun e => hw ⟨h0, h1, .inl e⟩
      have h2 : l.m2 < m := Int.not_le.1 fun e => hw ⟨h0, h1, .inr e⟩
      rw [if_neg hb]
      have p2 : (((s3 kd).num w).num hh').p = 3 := num_more (by rw [i1]; show 1 + 1 ≠ many kd; rw [many_more hb]; decide)
      have i2 : (((s3 kd).num w).num hh').i = 2 := rfl
      exact parse_dec_great p2 rfl (by omega) (by rw [i2]; exact h2) (by rw [i2]; show 0 ≤ l.m2; omega) _ _
    · exact parse_dec_great p1 rfl (by omega) (by rw [i1]; show l.m1 < hh'; omega) (by rw [i1]; show 0 ≤ l.m1; omega) _ _
  · exact parse_dec_great rfl rfl (by omega) (by show l.m0 < w; omega) (by show 0 ≤ l.m0; omega) _ _
end Hd
end Go.Proofs.Ytkphfpckkmendaa

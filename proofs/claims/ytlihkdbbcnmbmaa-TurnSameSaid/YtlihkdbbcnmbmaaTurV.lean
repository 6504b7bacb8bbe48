/- There are as many ways that are not the same as 8 divided by how many turns lay a matrix as it is. No run of a program. No condition. -/
import Derived.Test.YtlihkdbbcnmbmaaTurS
namespace Go.Proofs.Ytlihkdbbcnmbmaa
set_option linter.unusedVariables false
namespace Tu
/-- a matrix, laid by a turn -/
def keyG (W H : Nat) (L : List Int) (g : Nat) : Nat × Nat × List Int := (sw g W H, sw g H W, layL g W H L)
def actK (q : Nat) (k : Nat × Nat × List Int) : Nat × Nat × List Int := (sw q k.1 k.2.1, sw q k.2.1 k.1, layL q k.1 k.2.1 k.2.2)
theorem act_key {W H p q : Nat} (hp : p < 8) (hq : q < 8) (L : List Int) : actK q (keyG W H L p) = keyG W H L (thenN p q) := by
  unfold actK keyG
  simp only
  rw [sw_sw hp hq, sw_sw hp hq, lay_lay hp hq]
theorem grp : ∀ g, g < 8 → ∀ h, h < 8 → thenN h (backN h) = 0 ∧ thenN (thenN g (backN h)) h = g ∧ thenN 0 h = h := by decide
theorem key_same {W H g h : Nat} (hg : g < 8) (hh : h < 8) (L : List Int) : keyG W H L g = keyG W H L h ↔ keyG W H L (thenN g (backN h)) = keyG W H L 0 := by
  obtain ⟨e1, e2, e3⟩ := grp g hg h hh
  have hb := backN_lt hh
  constructor
  · intro e
    rw [← act_key hg hb, e, act_key hh hb, e1]
  · intro e
    have := congrArg (actK h) e
    rw [act_key (thenN_lt hg hb) hh, act_key (by omega) hh, e2, e3] at this
    exact this
/-- which turns lay it as it is -/
def stabB (W H : Nat) (L : List Int) (g : Nat) : Bool := decide (keyG W H L g = keyG W H L 0)
theorem stab_closed {W H g h : Nat} {L : List Int} (hg : g < 8) (hh : h < 8) (h1 : stabB W H L g = true) (h2 : stabB W H L h = true) : stabB W H L (thenN g h) = true := by
  unfold stabB at *
  rw [decide_eq_true_iff] at *
  rw [← act_key hg hh, h1, act_key (by omega) hh, (grp 0 (by omega) h hh).2.2, h2]
def ofB (b1 b2 b3 b4 b5 b6 b7 : Bool) (g : Nat) : Bool := match g with
  | 0 => true | 1 => b1 | 2 => b2 | 3 => b3 | 4 => b4 | 5 => b5 | 6 => b6 | _ => b7
def closedB (b : Nat → Bool) : Bool := (List.range 8).all fun g => (List.range 8).all fun h => !(b g && b h) || b (thenN g h)
/-- how many of the first n are not the same as one ahead -/
def newB (b : Nat → Bool) (g : Nat) : Bool := (List.range g).all fun h => !b (thenN g (backN h))
def checkB (b : Nat → Bool) : Bool := !closedB b || decide (((List.range 8).filter (newB b)).length * ((List.range 8).filter b).length = 8)
theorem check_all (b1 b2 b3 b4 b5 b6 b7 : Bool) : checkB (ofB b1 b2 b3 b4 b5 b6 b7) = true := by
  cases b1 <;> cases b2 <;> cases b3 <;> cases b4 <;> cases b5 <;> cases b6 <;> cases b7 <;> decide
theorem filter_congr8 {p q : Nat → Bool} (h : ∀ g, g < 8 → p g = q g) : (List.range 8).filter p = (List.range 8).filter q :=
  List.filter_congr fun g hg => h g (List.mem_range.1 hg)
theorem stab_count (W H : Nat) (L : List Int) : ((List.range 8).filter (newB (stabB W H L))).length * ((List.range 8).filter (stabB W H L)).length = 8 := by
  obtain ⟨b, hb⟩ : ∃ b, ofB (stabB W H L 1) (stabB W H L 2) (stabB W H L 3) (stabB W H L 4) (stabB W H L 5) (stabB W H L 6) (stabB W H L 7) = b := ⟨_, rfl⟩
  have he : ∀ g, g < 8 → stabB W H L g = b g := by
    intro g hg
    rw [← hb]
    rcases turn8 hg with rfl | rfl | rfl | rfl | rfl | rfl | rfl | rfl
    · simp [ofB, stabB]
    all_goals rfl
  have hc : checkB b = true := by rw [← hb]; exact check_all ..
  have hcl : closedB b = true := by
    unfold closedB
    rw [List.all_eq_true]
    intro g hg
    rw [List.all_eq_true]
    intro h hh
    have hg' := List.mem_range.1 hg
    have hh' := List.mem_range.1 hh
    rw [← he g hg', ← he h hh', ← he _ (thenN_lt hg' hh')]
    cases e1 : stabB W H L g with
    | false => rfl
    | true =>
      cases e2 : stabB W H L h with
      | false => rfl
      | true => rw [stab_closed hg' hh' e1 e2]; rfl
  unfold checkB at hc
  rw [hcl] at hc
  have hd : ((List.range 8).filter (newB b)).length * ((List.range 8).filter b).length = 8 := by simpa using hc
  rw [filter_congr8 he, filter_congr8 (p := newB (stabB W H L)) (q := newB b) (fun g hg => by
    unfold newB
    rw [Bool.eq_iff_iff, List.all_eq_true, List.all_eq_true]
    refine ⟨fun k h hh => ?_, fun k h hh => ?_⟩
    · have := k h hh
      have hh' := List.mem_range.1 hh
      rwa [he _ (thenN_lt hg (backN_lt (by omega)))] at this
    · have := k h hh
      have hh' := List.mem_range.1 hh
      rwa [he _ (thenN_lt hg (backN_lt (by omega)))])]
  exact hd
/-! the list of ways, turn by turn -/
theorem isKey_iff {t e : Nat × Nat × List Int} : isKey t e = true ↔ e = t := by
  obtain ⟨a, b, c⟩ := t
  obtain ⟨x, y, z⟩ := e
  simp [isKey, eqM, Int.ofNat_inj]
theorem place_iff {ks : List (Nat × Nat × List Int)} {t : Nat × Nat × List Int} : placeK ks t < 0 ↔ t ∉ ks := by
  constructor
  · intro h hm
    obtain ⟨i, hi, e⟩ := List.mem_iff_getElem.1 hm
    have := firstI_neg h i hi
    rw [List.getElem?_eq_getElem hi, e] at this
    simp only at this
    rw [key_self] at this
    exact absurd this (by decide)
  · intro h
    have : placeK ks t = -1 := firstI_miss fun i hi => by
      rw [List.getElem?_eq_getElem hi]
      simp only
      cases e : isKey t ks[i] with
      | false => rfl
      | true => exact absurd (isKey_iff.1 e ▸ List.getElem_mem hi) h
    omega
theorem orb_keys {W H : Nat} {L : List Int} (hk : ∀ g, g < 8 → keyOf W H L g = some (keyG W H L g)) : ∀ n, n ≤ 8 →
    (∀ t, t ∈ (orbO W H L ((List.range n).map fun i : Nat => (i : Int))).1 ↔ ∃ h, h < n ∧ keyG W H L h = t) ∧
    (orbO W H L ((List.range n).map fun i : Nat => (i : Int))).1.length = ((List.range n).filter (newB (stabB W H L))).length
  | 0, _ => ⟨fun t => by simp [orbO], rfl⟩
  | n + 1, hn => by
    obtain ⟨i1, i2⟩ := orb_keys hk n (by omega)
    have hstep : ∀ ks, stepO W H L ks ((n : Nat) : Int) = addK ks (some (keyG W H L n)) := fun ks => by
      unfold stepO; rw [if_pos (isT_iff.2 (by omega)), Int.toNat_natCast, hk n (by omega)]
    have hnew : newB (stabB W H L) n = true ↔ keyG W H L n ∉ (orbO W H L ((List.range n).map fun i : Nat => (i : Int))).1 := by
      unfold newB
      rw [List.all_eq_true, i1]
      constructor
      · rintro k ⟨h, hh, e⟩
        have := k h (List.mem_range.2 hh)
        have e2 := (key_same (by omega : n < 8) (by omega : h < 8) L).1 e.symm
        unfold stabB at this
        rw [decide_eq_true e2] at this
        exact absurd this (by decide)
      · intro k h hh
        have hh' := List.mem_range.1 hh
        cases e : stabB W H L (thenN n (backN h)) with
        | false => rfl
        | true =>
          unfold stabB at e
          rw [decide_eq_true_iff] at e
          exact absurd ⟨h, hh', ((key_same (by omega : n < 8) (by omega : h < 8) L).2 e).symm⟩ k
    rw [List.range_succ, List.map_append, List.map_singleton, orb_more, hstep, List.filter_append]
    simp only [addK]
    by_cases hp : placeK (orbO W H L ((List.range n).map fun i : Nat => (i : Int))).1 (keyG W H L n) < 0
    · rw [if_pos hp]
      have hb := hnew.2 (place_iff.1 hp)
      refine ⟨fun t => ?_, ?_⟩
      · simp only [List.mem_append, List.mem_singleton, i1]
        constructor
        · rintro (⟨h, hh, e⟩ | e)
          · exact ⟨h, by omega, e⟩
          · exact ⟨n, by omega, e.symm⟩
        · rintro ⟨h, hh, e⟩
          rcases Nat.lt_or_ge h n with h5 | h5
          · exact .inl ⟨h, h5, e⟩
          · obtain rfl : h = n := by omega
            exact .inr e.symm
      · rw [List.length_append, List.length_append, i2]
        simp [hb]
    · rw [if_neg hp]
      have hm : keyG W H L n ∈ (orbO W H L ((List.range n).map fun i : Nat => (i : Int))).1 := Classical.byContradiction fun h => hp (place_iff.2 h)
      have hb : newB (stabB W H L) n = false := by
        cases e : newB (stabB W H L) n with
        | false => rfl
        | true => exact absurd hm (hnew.1 e)
      refine ⟨fun t => ?_, ?_⟩
      · rw [i1]
        constructor
        · rintro ⟨h, hh, e⟩
          exact ⟨h, by omega, e⟩
        · rintro ⟨h, hh, e⟩
          rcases Nat.lt_or_ge h n with h5 | h5
          · exact ⟨h, h5, e⟩
          · obtain rfl : h = n := by omega
            rw [← e]
            exact (i1 _).1 hm
      · rw [List.length_append, i2]
        simp [hb]
end Tu
end Go.Proofs.Ytlihkdbbcnmbmaa

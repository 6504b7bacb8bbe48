/- A slice of slices that came in; what is read of it. No condition. -/
import Derived.Test.YtldhhhmihfcalaaRecX
import Derived.Test.YtldhhhmihfcalaaRecNA
import Derived.Test.YtldhhhmihfcalaaRecW
import Derived.Test.YtldhhhmihfcalaaRecL
import Derived.Test.YtldhhhmihfcalaaRecM
import Derived.Deep.AppendLies
import Derived.Deep.RegionLaw
import Derived.Deep.CutBlock
import Derived.Deep.CutRange
import Derived.Deep.DeepCutAuto
import Derived.Deep.RegionHeld3
namespace Go.Proofs.Ytldhhhmihfcalaa
open Go.RowKit
set_option linter.unusedVariables false

/-- a slice of slices of numbers that came in -/
def IsRows (w : World) (a : Option Addr) (len cap : Nat) : Prop :=
  (a = none ∧ len = 0 ∧ cap = 0) ∨
  ∃ x, a = some x ∧ len ≤ cap ∧ cap ≤ maxLen ∧ ∀ r, r < cap → ∃ ai ni ci zi, w.cell? (x.add r) = some (.slice ai ni ci) ∧ IsRow .u64 w ai ni ci zi
theorem isrows_len {w : World} {a : Option Addr} {len cap : Nat} (h : IsRows w a len cap) : len ≤ 9223372036854775807 := by
  rcases h with ⟨_, rfl, _⟩ | ⟨x, _, h1, h2, _⟩
  · omega
  · unfold maxLen at h2; omega
/-- its rows, by name -/
def RowsAt (w : World) (a : Option Addr) (q : Nat) (A : Nat → Option Addr) (N C : Nat → Nat) (Z : Nat → List Int) : Prop :=
  ∀ r, r < q → (∃ b off, a = some ⟨b, off, none⟩ ∧ w.cell? ⟨b, off + r, none⟩ = some (.slice (A r) (N r) (C r))) ∧ IsRow .u64 w (A r) (N r) (C r) (Z r)
theorem isrows_at {w : World} {a : Option Addr} {len cap : Nat} (h : IsRows w a len cap) : ∃ A N C Z, RowsAt w a len A N C Z := by
  have H : ∀ r, ∃ y : Option Addr × Nat × Nat × List Int, r < len → (∃ b off, a = some ⟨b, off, none⟩ ∧ w.cell? ⟨b, off + r, none⟩ = some (.slice y.1 y.2.1 y.2.2.1)) ∧ IsRow .u64 w y.1 y.2.1 y.2.2.1 y.2.2.2 := by
    intro r
    by_cases hr : r < len
    · rcases h with ⟨_, rfl, _⟩ | ⟨⟨b, off, sp⟩, rfl, h1, h2, h3⟩
      · omega
      · obtain ⟨ai, ni, ci, zi, k1, k2⟩ := h3 r (by omega)
        obtain ⟨_, _, _, _, k3, _⟩ := h3 0 (by omega)
        have hsp : sp = none := by simpa [Addr.add] using World.cell?_spot k3
        subst hsp
        rw [addrK_add] at k1
        exact ⟨(ai, ni, ci, zi), fun _ => ⟨⟨b, off, rfl, k1⟩, k2⟩⟩
    · exact ⟨(none, 0, 0, []), fun k => absurd k hr⟩
  exact ⟨fun r => (Classical.choose (H r)).1, fun r => (Classical.choose (H r)).2.1, fun r => (Classical.choose (H r)).2.2.1, fun r => (Classical.choose (H r)).2.2.2, fun r hr => Classical.choose_spec (H r) hr⟩
/-- what the first six numbers of a row come to -/
def cutC (A : Option Addr) (n c : Nat) : Value := .slice A (min n 6) c
theorem cutR_len {w : World} {a : Option Addr} {n c : Nat} {z : List Int} (h : IsRow .u64 w a n c z) : (z.take (min n 6)).length = min n 6 := by
  have := isrow_len h
  rw [List.length_take]; omega
/-- a list of slices in memory of the call's own, each a row of numbers -/
theorem rows_own {w : World} {base : Nat} {e : TypeId} {ad : Option Addr} {n cap : Nat} {R : List (List Int)} {cs : List Value} (hn : R.length = n) (h : w.ownsRow base e 1 (.slice ad n cap) n cs) (hl : cs.length = n)
    (hc : ∀ i, i < n → ∃ ai ci, cs.getD i (.bool false) = .slice ai (R.getD i []).length ci ∧ SlK .u64 w ai (R.getD i []).length (R.getD i [])) : RowsK w ad n R := by
  refine ⟨hn, ?_⟩
  have H := h
  obtain ⟨h1, h2⟩ := h
  rcases h2 with ⟨_, rfl⟩ | ⟨g, cap, cur, hv, hb, hg, hle, hm, hsz, htk⟩
  · exact .inl rfl
  · cases hv
    refine .inr ⟨g, 0, rfl, fun i hi => ?_⟩
    obtain ⟨ai, ci, k1, k2⟩ := hc i hi
    refine ⟨ai, ci, ?_, k2⟩
    rw [Nat.zero_add, H.cellAt i (by omega), ← k1, List.getD_eq_getElem?_getD, List.getElem?_eq_getElem (by omega)]; rfl
theorem Try.info_row : (Try.prog.info? 22).map (fun i => (i.zero, i.size, i.bytes)) = some (some (.slice none 0 0), 1, 24) := by kernel_rfl
theorem of_slk {k : IntKind} {w : World} {a : Option Addr} {len cap : Nat} {zs : List Int} (h : IsRow k w a len cap zs) : SlK k w a len (zs.take len) := isrow_takeK h len (Nat.le_refl _)
theorem of_take {w : World} {a : Option Addr} {len cap : Nat} {zs : List Int} (h : IsRow .u64 w a len cap zs) (n : Nat) : ∀ x ∈ zs.take n, 0 ≤ x ∧ x ≤ 18446744073709551615 := fun x hx => by
  have := isrow_wfK h x (List.mem_of_mem_take hx)
  simp [Lit.wf, IntKind.min, IntKind.max, IntKind.bits, IntKind.signed] at this; omega
theorem ofRow_val {w : World} {base : Nat} {e : TypeId} {v : Value} {n : Nat} {cs : List Value} (h : w.ownsRow base e 1 v n cs) : ∃ ad cap, v = .slice ad n cap := by
  rcases h.2 with ⟨rfl, rfl⟩ | ⟨g, cap, cur, rfl, _⟩
  · exact ⟨none, 0, rfl⟩
  · exact ⟨_, cap, rfl⟩
/-- the first rows, each of six numbers at most -/
def rawR (N : Nat → Nat) (Z : Nat → List Int) (q : Nat) : List (List Int) := (List.range q).map fun r => (Z r).take (min (N r) 6)
theorem rawR_len (N : Nat → Nat) (Z : Nat → List Int) (q : Nat) : (rawR N Z q).length = q := by simp [rawR]
theorem rawR_at {N : Nat → Nat} {Z : Nat → List Int} {q i : Nat} (h : i < q) : (rawR N Z q).getD i [] = (Z i).take (min (N i) 6) := by simp [rawR, List.getD_eq_getElem?_getD, List.getElem?_range h]
theorem rawR_short (N : Nat → Nat) (Z : Nat → List Int) (q : Nat) : ∀ i, i < q → ((rawR N Z q).getD i []).length ≤ 6 := fun i hi => by rw [rawR_at hi, List.length_take]; omega
theorem raw_rows {w w' : World} {a : Option Addr} {q base : Nat} {e : TypeId} {A : Nat → Option Addr} {N C : Nat → Nat} {Z : Nat → List Int} {ad : Option Addr} {cap : Nat} (hat : RowsAt w a q A N C Z) (hb : Below w.heap.size w w')
    (h : w'.ownsRow base e 1 (.slice ad q cap) q ((List.range q).map fun r => cutC (A r) (N r) (C r))) : RowsK w' ad q (rawR N Z q) := by
  refine rows_own (rawR_len N Z q) h (by simp) fun i hi => ?_
  obtain ⟨_, hr⟩ := hat i hi
  refine ⟨A i, C i, ?_, ?_⟩
  · rw [rawR_at hi, cutR_len hr]
    simp [List.getD_eq_getElem?_getD, List.getElem?_range hi, cutC]
  · rw [rawR_at hi, cutR_len hr]
    exact (isrow_takeK hr _ (by omega)).below hb
theorem rowsAt_less {w : World} {a : Option Addr} {q p : Nat} {A : Nat → Option Addr} {N C : Nat → Nat} {Z : Nat → List Int} (h : RowsAt w a q A N C Z) (hp : p ≤ q) : RowsAt w a p A N C Z := fun r hr => h r (by omega)
theorem rectOf_any (a : Option Addr) (n c : Nat) (R : List (List Int)) (w : World) (hn : n ≤ 100) (hR : ∀ i, i < n → (R.getD i []).length ≤ 100) (hr : RowsK w a n R) :
    Calls Try.prog 65 #[.slice a n c] w (OfR R w) := by
  have hl := hr.1
  cases hs : Rc.sized (lenV R) R.length
  · refine (rectOf_no a n c R (by omega) (fun i hi => by have := hR i hi; omega) (by rw [← hl]; exact hs) w hr).mono ?_
    rintro e w' ⟨rfl, hb⟩
    unfold OfR
    rw [ofV_no hs]
    exact ⟨none, 0, rfl, .inl rfl, Nat.le_refl _, by omega, hb⟩
  · refine (rectOf_yes a n c R (by rw [← hl]; exact hs) w hr).mono ?_
    rintro e w' ⟨g, rfl, ho, hb⟩
    unfold OfR
    rw [ofV_yes hs]
    obtain ⟨s1, s2, s3, s4, s5⟩ := Rc.sized_iff.1 hs
    have hall : ∀ i, i < R.length → (R.getD i []).length = lenV R := fun i hi => lenV_all (by omega) i hi
    have hlen : (Rc.rowsOf (fun k => R.getD k []) R.length).length = n * lenV R := by rw [Rc.rowsOf_length hall, hl]
    have h9 : n * lenV R ≤ 9223372036854775807 := by
      have : ((n * lenV R : Nat) : Int) = lenV R * R.length := by rw [hl, Int.natCast_mul, Int.mul_comm]
      omega
    refine ⟨some ⟨g, 0, none⟩, n * lenV R, ?_, ?_, by simp only []; rw [hlen]; omega, h9, hb⟩
    · simp only []; rw [hlen, hl]
    · rw [hl]; rw [hl] at hlen; exact ho.own
/-- what the two ways of making a matrix hand back -/
def MatE (e1 e2 e4 : Int) (n3 : Nat) (L : List Int) (w : World) (e : Ending) (w' : World) : Prop :=
  ∃ ad c, e = .returned (.tuple #[.agg #[.int .i64 e1, .int .i64 e2, .slice ad n3 c], .int .i64 e4]) ∧ SlK .u64 w' ad n3 L ∧ n3 ≤ c ∧ c ≤ 9223372036854775807 ∧ Below w.heap.size w w'
theorem ofR_mat {R : List (List Int)} {w w' : World} {e : Ending} {e1 e2 e4 : Int} {n3 : Nat} {L : List Int} (hv : ofV R = (e1, e2, L, e4)) (hl : L.length = n3) (h : OfR R w e w') : MatE e1 e2 e4 n3 L w e w' := by
  unfold OfR at h
  rw [hv] at h
  obtain ⟨ad, c, h1, h2, h3, h4, h5⟩ := h
  subst hl
  exact ⟨ad, c, h1, h2.sl, h3, h4, h5⟩
/-- a matrix's rows -/
def gRow (W : Int) (L : List Int) (k : Nat) : List Int := lineK true (fun i : Nat => L.getD (k * W.toNat + i) 0) W.toNat
def gRows (W H : Int) (L : List Int) : List (List Int) := (List.range H.toNat).map (gRow W L)
theorem gRow_len (W : Int) (L : List Int) (k : Nat) : (gRow W L k).length = W.toNat := by simp [gRow, lineK]
theorem gRows_len (W H : Int) (L : List Int) : (gRows W H L).length = H.toNat := by simp [gRows]
theorem gRows_at {W H : Int} {L : List Int} {i : Nat} (h : i < H.toNat) : (gRows W H L).getD i [] = gRow W L i := by simp [gRows, List.getD_eq_getElem?_getD, List.getElem?_range h]
theorem good_rows {W H : Int} {L : List Int} (hL : Rc.Ok W H L) : ofV (gRows W H L) = (W, H, L, 0) := by
  obtain ⟨h1, h2, h3, h4, h5, h6⟩ := hL
  have hH : 0 < H.toNat := by omega
  have hl : lenV (gRows W H L) = W.toNat := by
    rw [lenV_yes (fun i hi => by rw [gRows_len] at hi; rw [gRows_at hi, gRows_at hH, gRow_len, gRow_len]), gRows_at hH, gRow_len]
  have hs : Rc.sized (lenV (gRows W H L)) (gRows W H L).length = true := by
    rw [hl, gRows_len, Rc.sized_iff, Int.toNat_of_nonneg (by omega), Int.toNat_of_nonneg (by omega)]
    exact ⟨h1, h2, h3, h4, h5⟩
  rw [ofV_yes hs, hl, gRows_len, Int.toNat_of_nonneg (by omega), Int.toNat_of_nonneg (by omega)]
  have hr : Rc.rowsOf (fun k => (gRows W H L).getD k []) H.toNat = L := by
    rw [Rc.rowsOf_congr (g := fun k => Rc.cutL L W 0 (k : Int) W) (fun k hk => ?_)]
    · exact (Rc.rows_cut h6).symm
    · have hk' : Rc.insV (k : Int) 1 H = true := Rc.insV_iff.2 ⟨by omega, by omega, by omega, by omega⟩
      have hw : Rc.insV 0 W W = true := Rc.insV_iff.2 ⟨by omega, by omega, by omega, by omega⟩
      obtain ⟨p1, p2, p3, p4⟩ := place ⟨h1, h2, h3, h4, h5, h6⟩ hw hk'
      show (gRows W H L).getD k [] = Rc.cutL L W 0 (k : Int) W
      rw [gRows_at hk, cut_map p3]
      simp [gRow, lineK]
  rw [hr]
/-- a row in a block of its own, apart from a list's -/
def RowI (W : World) (v : Value) (g m : Nat) (zs : List Int) : Prop := SlK .u64 W (some ⟨g, 0, none⟩) m zs ∧ g < W.heap.size ∧ v.ownBlock ≠ some g
theorem RowI.later {W W' : World} {v : Value} {g m : Nat} {zs : List Int} (h : RowI W v g m zs) (hb : Below W.heap.size W W') : RowI W' v g m zs := ⟨h.1.below hb, Nat.lt_of_lt_of_le h.2.1 hb.size, h.2.2⟩
theorem RowI.grown {W w' : World} {v v' : Value} {g m gg : Nat} {zs : List Int} (h : RowI W v g m zs) (hg : W.grownBy w' v.ownBlock) (hv : v'.ownBlock = some gg) (hat : v.ownBlock = some gg ∨ gg = W.heap.size) : RowI w' v' g m zs := by
  obtain ⟨⟨h1, h2⟩, h3, h4⟩ := h
  refine ⟨⟨h1, ?_⟩, ?_, ?_⟩
  · rcases h2 with h2 | ⟨b, o, e, hc⟩
    · exact .inl h2
    · refine .inr ⟨b, o, e, fun i hi => ?_⟩
      cases e
      rw [hg.cell_far ⟨g, 0 + i, none⟩ h3 (fun e => h4 e.symm)]
      exact hc i hi
  · exact Nat.lt_of_lt_of_le h3 hg.size
  · rw [hv]
    intro e
    cases e
    rcases hat with e | e
    · exact h4 e
    · omega
theorem rows_up {W w' : World} {v v' : Value} {ps : List (Nat × Nat)} {k m gn cn gg : Nat} {f : Nat → List Int} (hal : ps.length = k) (hold : ∀ i, i < k → RowI W v (ps.getD i (0, 0)).1 m (f i)) (hnew : RowI W v gn m (f k)) (hg : W.grownBy w' v.ownBlock) (hv : v'.ownBlock = some gg)
    (hat : v.ownBlock = some gg ∨ gg = W.heap.size) : ∀ i, i < k + 1 → RowI w' v' ((ps ++ [(gn, cn)]).getD i (0, 0)).1 m (f i) := by
  intro i hi
  rcases Nat.lt_or_ge i k with h | h
  · rw [show (ps ++ [(gn, cn)]).getD i (0, 0) = ps.getD i (0, 0) by simp [List.getD_eq_getElem?_getD, List.getElem?_append_left (show i < ps.length by omega)]]
    exact (hold i h).grown hg hv hat
  · obtain rfl : i = k := by omega
    rw [show (ps ++ [(gn, cn)]).getD i (0, 0) = (gn, cn) by rw [← hal]; simp [List.getD_eq_getElem?_getD]]
    exact hnew.grown hg hv hat
/-- what a matrix's row by the document hands back, where there is one -/
theorem line_row {xs : List Int} {w w' : World} {e : Ending} (h : LineR xs w e w') {m : Nat} (hm : xs.length = m) (h0 : 0 < m) :
    ∃ g c, e = .returned (.slice (some ⟨g, 0, none⟩) m c) ∧ SlK .u64 w' (some ⟨g, 0, none⟩) m xs ∧ w.heap.size ≤ g ∧ g < w'.heap.size ∧ c ≤ 9223372036854775807 ∧ Below w.heap.size w w' := by
  obtain ⟨ad, c, rfl, ho, h1, h2, hb⟩ := h
  subst hm
  have hs := ho.sl
  rcases ho with h | ⟨g, rfl, h4, h5, _⟩
  · rw [h] at h0; simp at h0
  · exact ⟨g, c, rfl, hs, h4, h5, h2, hb⟩
/-- a row or column handed back, of a length that is told -/
def LineE (m : Nat) (R : List Int) (w : World) (e : Ending) (w' : World) : Prop := ∃ ad c, e = .returned (.slice ad m c) ∧ SlK .u64 w' ad m R ∧ Below w.heap.size w w'
theorem line_a {X R : List Int} {m : Nat} {w w' : World} {e : Ending} (hx : X = R) (hm : R.length = m) (h : ∃ ad cap, e = .returned (.slice ad X.length cap) ∧ OwnK .u64 w.heap.size w' ad X ∧ Below w.heap.size w w') : LineE m R w e w' := by
  subst hx hm
  obtain ⟨ad, c, rfl, ho, hb⟩ := h
  exact ⟨ad, c, rfl, ho.sl, hb⟩
theorem line_b {X R : List Int} {m : Nat} {w w' : World} {e : Ending} (hx : X = R) (hm : R.length = m) (h : LineR X w e w') : LineE m R w e w' := by
  subst hx hm
  obtain ⟨ad, c, rfl, ho, _, _, hb⟩ := h
  exact ⟨ad, c, rfl, ho.sl, hb⟩
theorem sameRow_self (a b : Option Addr) (n ca cb : Nat) (x : List Int) (w : World) (hn : n ≤ 9223372036854775807) (ha : SlK .u64 w a n x) (hb : SlK .u64 w b n x) :
    Calls Try.prog 40 #[.slice a n ca, .slice b n cb] w fun e w' => e = .returned (.bool true) ∧ Below w.heap.size w w' := by
  have h := sameRow_any a b n n ca cb x x w hn ha hb
  rw [show decide (x = x) = true by simp] at h
  exact h
end Go.Proofs.Ytldhhhmihfcalaa

/- Plain facts on rasters of digits that are cut off behind some pixels. No condition. -/
import Derived.Test.YtldhhhmihfcalaaZgAF
import Derived.Test.YtldhhhmihfcalaaZPlO
namespace Go.Proofs.Ytldhhhmihfcalaa
open Go.RowKit
set_option linter.unusedVariables false
namespace Pl
/-- a byte that ends a pixel; of the kind 1 each sample -/
def ends (kd x : Int) : Bool := ((kd == 1) && (x != 10)) || ((kd != 1) && (x == 10))
theorem ends_one {x : Int} (h : x ≠ 10) : ends 1 x = true := by simp [ends, h]
theorem ends_ten {kd : Int} (h : ¬ kd = 1) : ends kd 10 = true := by simp [ends, h]
theorem ends_no1 : ends 1 10 = false := by decide
theorem ends_no {kd x : Int} (h : ¬ kd = 1) (hx : x ≠ 10) : ends kd x = false := by simp [ends, h, hx]
theorem least_take {p : Int → Bool} {xs A B : List Int} {y : Int} {i k : Nat} (hx : xs = A ++ [y] ++ B) (hy : p y = true) (hA : A.countP p = k) (hi : (xs.take i).countP p = k + 1) (hl : ∀ j, j < i → (xs.take j).countP p < k + 1) : xs.take i = A ++ [y] := by
  have e0 : xs.take (A.length + 1) = A ++ [y] := by
    rw [hx]
    have : (A ++ [y]).length = A.length + 1 := by simp
    rw [← this, List.take_left']
    rfl
  have c0 : (xs.take (A.length + 1)).countP p = k + 1 := by rw [e0, List.countP_append, hA]; simp [hy]
  rcases Nat.lt_trichotomy i (A.length + 1) with h | h | h
  · exfalso
    have e1 : xs.take i = A.take i := by
      rw [hx, List.append_assoc, List.take_append_of_le_length (by omega)]
    have h2 : (A.take i).countP p ≤ A.countP p := List.Sublist.countP_le (List.take_sublist i A)
    rw [e1] at hi
    omega
  · rw [h]; exact e0
  · exfalso
    have := hl _ h
    omega
theorem wTk_no10 {kd : Int} (hk : ¬ kd = 1) {zs : List Int} (hz : ∀ z ∈ zs, 0 ≤ z) : ∀ k, k ≤ zs.length → (wTk zs k).countP (ends kd) = 0
  | 0, _ => rfl
  | k + 1, h => by
    have hd : (Nu.decV (zs.getD k 0)).countP (ends kd) = 0 := by
      rw [List.countP_eq_zero]
      intro x hx
      have := decV_digits (hz _ (getD_mem (by omega))) x hx
      rw [ends_no hk (by omega)]; decide
    rw [wTk_succ, List.countP_append, List.countP_append, wTk_no10 hk hz k (by omega), hd]
    split
    · simp [ends_no hk (show (32 : Int) ≠ 10 by decide)]
    · rfl
/-- a pixel's text: what stands ahead of the byte that ends it, that byte, and what is behind -/
theorem pix_ends {G : Hd.H} {p : Int} {i : Nat} (hm : May G) (hp : Pq.GoodP p (Hj.chan G) G.m) :
    ∃ A y B, wTk (Pq.Px.smp p) (Pq.Px.smp p).length ++ (if wLn G i = true then [10] else []) = A ++ [y] ++ B ∧ ends G.kd y = true ∧ A.countP (ends G.kd) = 0 ∧ B.countP (ends G.kd) = 0 ∧ Sq G.kd G.m 1 (Pq.Px.smp p) (A ++ [y]) := by
  have hq := sq_pix (i := i) hm hp
  have hk := chan13 hm
  by_cases h1 : G.kd = 1
  · rcases hp with ⟨hc, -⟩ | ⟨hc, x, h, hx⟩
    · omega
    · obtain ⟨e0, a1, a2⟩ := id h
      have hm1 := kd1_m hm h1
      rw [Pq.Px.smp1 h]
      refine ⟨[], 48 + x, if wLn G i = true then [10] else [], ?_, by rw [h1]; exact ends_one (by omega), rfl, ?_, ?_⟩
      · rw [show wTk [x] ([x] : List Int).length = Nu.decV x by simp [wTk], Nu.decV_pos a1 (by omega)]
        rfl
      · split
        · rw [h1]; decide
        · rfl
      · exact ⟨[48 + x], [], [], by simp, ⟨a1, hx, .inl ⟨h1, by omega, rfl⟩⟩, (fun e he => by cases he), Nat.zero_le _, rfl⟩
  · have hw : wLn G i = true := by
      have := hm.m
      have h2 : 1 < G.kd := by omega
      simp [wLn, h2]
    rw [hw, if_pos rfl] at hq ⊢
    refine ⟨wTk (Pq.Px.smp p) (Pq.Px.smp p).length, 10, [], by simp, ends_ten h1, ?_, rfl, hq⟩
    exact wTk_no10 h1 (fun z hz => ((smp_in (Pq.goodU hp)).2 z hz).1) _ (Nat.le_refl _)
theorem cnt_all {G : Hd.H} {l : List Int} (hm : May G) (hl : Fits G l) : ∀ i, i ≤ l.length → (wAll G l i).countP (ends G.kd) = i
  | 0, _ => rfl
  | i + 1, hi => by
    obtain ⟨A, y, B, h1, h2, h3, h4, -⟩ := pix_ends (i := i) hm (hl _ (getD_mem (show i < l.length by omega)))
    rw [wAll_succ, List.append_assoc, h1, List.countP_append, cnt_all hm hl i (by omega), List.countP_append, List.countP_append, h3, h4]
    simp [h2]
theorem wAll_pre (G : Hd.H) (l : List Int) (i : Nat) : ∀ n, ∃ B, wAll G l (i + n) = wAll G l i ++ B
  | 0 => ⟨[], by simp⟩
  | n + 1 => by
    obtain ⟨B, hB⟩ := wAll_pre G l i n
    rw [← Nat.add_assoc, wAll_succ, hB]
    exact ⟨_, by rw [List.append_assoc, List.append_assoc]⟩
/-- the shortest beginning with so many pixels' ends has just these pixels -/
theorem cut_sq {G : Hd.H} {l : List Int} (hm : May G) (hl : Fits G l) {i k : Nat} (hk : k < l.length) (hi : ((wAll G l l.length).take i).countP (ends G.kd) = k) (hlt : ∀ j, j < i → ((wAll G l l.length).take j).countP (ends G.kd) < k) :
    Sq G.kd G.m 1 ((l.take k).flatMap Pq.Px.smp) ((wAll G l l.length).take i) := by
  cases k with
  | zero =>
    have : i = 0 := by
      rcases Nat.eq_zero_or_pos i with h | h
      · exact h
      · have := hlt 0 h; omega
    subst this
    simp [Sq]
  | succ k =>
    obtain ⟨A, y, B, h1, h2, h3, h4, h5⟩ := pix_ends (i := k) hm (hl _ (getD_mem (show k < l.length by omega)))
    obtain ⟨C, hC⟩ := wAll_pre G l (k + 1) (l.length - (k + 1))
    have hS : wAll G l (k + 1) = wAll G l k ++ (A ++ [y] ++ B) := by rw [wAll_succ, List.append_assoc, h1]
    rw [show k + 1 + (l.length - (k + 1)) = l.length by omega, hS] at hC
    have e := least_take (p := ends G.kd) (xs := wAll G l l.length) (A := wAll G l k ++ A) (B := B ++ C) (y := y) (i := i) (k := k) (by rw [hC]; simp) h2 (by rw [List.countP_append, cnt_all hm hl k (by omega), h3, Nat.add_zero]) hi hlt
    rw [e, smps_succ l k (by omega), List.append_assoc]
    exact (sq_all hm hl k (by omega)).app h5
theorem cnt_succ {p : Int → Bool} {xs : List Int} {i : Nat} (h : i < xs.length) : (xs.take (i + 1)).countP p = (xs.take i).countP p + (if p (xs.getD i 0) = true then 1 else 0) := by
  rw [take_getD xs i h, List.countP_append, List.countP_singleton]
theorem fin_pst (G : Hd.H) (l : List Int) (W k : Nat) : fin (pst G l W k) = (wrong (pst G l W k) 6, []) := by
  have hb : put (pst G l W k) 32 = (pst G l W k, []) := put_blank ⟨rfl, rfl, rfl⟩ (by decide)
  unfold fin; rw [hb]; rfl
theorem putS_succ (s : S) {t : List Int} {i : Nat} (h : i < t.length) : putS s (t.take (i + 1)) = (put (putS s (t.take i)) (t.getD i 0)).1 := by
  rw [take_getD t i h]
  simp [putS, List.foldl_append]
end Pl
end Go.Proofs.Ytldhhhmihfcalaa

/- Two readers of digits beside one another, the program's and the document's. No condition. -/
namespace Go.Proofs.Ytldhhhmihfcalaa
open Go.RowKit
set_option linter.unusedVariables false

/-- a slice that is known, in memory that is neither the block k nor the reader's -/
def SlP (q : IntKind) (w : World) (a : Option Addr) (n : Nat) (l : List Int) (k b : Nat) (sv rv : Value) : Prop :=
  l.length = n ∧ (n = 0 ∨ ∃ g o, a = some ⟨g, o, none⟩ ∧ g ≠ k ∧ ¬ PlZ b sv rv g ∧ ∀ i, i < n → w.cell? ⟨g, o + i, none⟩ = some (.int q (l.getD i 0)))
section
variable {q : IntKind} {w w' wr : World} {a A : Option Addr} {n m k b : Nat} {l O : List Int} {sv rv sv' rv' : Value}
theorem SlP.sl (h : SlP q w a n l k b sv rv) : SlK q w a n l := by
  refine ⟨h.1, ?_⟩
  rcases h.2 with h | ⟨g, o, ha, _, _, hc⟩
  · exact .inl h
  · exact .inr ⟨g, o, ha, hc⟩
theorem slp_nil : SlP q w a ([] : List Int).length [] k b sv rv := ⟨rfl, .inl rfl⟩
theorem SlP.put (h : SlP q w a n l k b sv rv) (hg : w.grownBy w' (some k)) : SlP q w' a n l k b sv rv := by
  refine ⟨h.1, ?_⟩
  rcases h.2 with h | ⟨g, o, ha, h1, h2, hc⟩
  · exact .inl h
  · exact .inr ⟨g, o, ha, h1, h2, fun i hi => hg.cell (hc i hi) (by intro e; injection e with e; exact h1 e)⟩
theorem SlP.later (h : SlP q w a n l k b sv rv) (hb : Below w.heap.size w w') : SlP q w' a n l k b sv rv := by
  refine ⟨h.1, ?_⟩
  rcases h.2 with h | ⟨g, o, ha, h1, h2, hc⟩
  · exact .inl h
  · exact .inr ⟨g, o, ha, h1, h2, fun i hi => cell_later hb (hc i hi)⟩
theorem z_new {g : Nat} (hg : g < w.heap.size) (hz : ¬ PlZ b sv rv g) (h1 : PlNew w sv sv') (h2 : PlNew w rv rv') : ¬ PlZ b sv' rv' g := by
  rintro (rfl | h | h)
  · exact hz (.inl rfl)
  · rcases h1 with e | e
    · exact hz (.inr (.inl (by rw [← e]; exact h)))
    · have := e g h; omega
  · rcases h2 with e | e
    · exact hz (.inr (.inr (by rw [← e]; exact h)))
    · have := e g h; omega
theorem SlP.sep (h : SlP q w a n l k b sv rv) (hs : Sep (PlZ b sv rv) w w') (h1 : PlNew w sv sv') (h2 : PlNew w rv rv') : SlP q w' a n l k b sv' rv' := by
  refine ⟨h.1, ?_⟩
  by_cases hn : n = 0
  · exact .inl hn
  rcases h.2 with h | ⟨g, o, ha, hk, hz, hc⟩
  · exact .inl h
  · have hlt : g < w.heap.size := block_lt_of_cell (hc 0 (by omega))
    exact .inr ⟨g, o, ha, hk, z_new hlt hz h1 h2, fun i hi => hs.cell hz (hc i hi)⟩
theorem SlP.of (h : SlK q w a n l) (hf : (a = A ∧ l = O) ∨ Nw wr a) (hA : SlP q wr A m O k b sv rv) (hk : k < wr.heap.size) (hz : ∀ j, PlZ b sv rv j → b ≤ j ∧ j < wr.heap.size) : SlP q w a n l k b sv rv := by
  refine ⟨h.1, ?_⟩
  rcases h.2 with h0 | ⟨g, o, ha, hc⟩
  · exact .inl h0
  · by_cases hn : n = 0
    · exact .inl hn
    rcases hf with ⟨rfl, rfl⟩ | hf
    · rcases hA.2 with h0 | ⟨g', o', ha', h1, h2, _⟩
      · exact absurd (h.1.symm.trans (hA.1.trans h0)) hn
      · rw [ha] at ha'; cases ha'; exact .inr ⟨g, o, ha, h1, h2, hc⟩
    · have h3 : wr.heap.size ≤ g := hf _ ha
      exact .inr ⟨g, o, ha, by omega, fun hz' => by have := (hz g hz').2; omega, hc⟩
end
theorem PlX.put {w w' : World} {b k : Nat} {sv rv : Value} {s : Pl.S} (X : PlX w b sv rv s) (hk : ¬ PlZ b sv rv k) (hg : w.grownBy w' (some k)) : PlX w' b sv rv s :=
  PlX.kept (v := .slice (some ⟨k, 0, none⟩) 0 0) X (fun j hj => by cases hj; exact hk) hg
/-- what is looked at behind both were told -/
structure StQ (b : Nat) (sv rv : Value) (q : Pl.S × List Int) (m : Nat) (a1 a2 : Option Addr) (k : Nat) (b1 b2 : Option Addr) (h2 : Hd.H) (N2 : Int) (m1 m2 : Nat) (e1 e2 : Nat) (rows2 last2 er2 : Int) (w4 w : World) : Prop where
  x : PlX w b sv rv q.1
  s1 : SlK .u64 w a1 m q.2
  s2 : SlK .u64 w a2 m q.2
  kc : RbC w k h2 N2 (.slice b1 m1 e1) (.slice b2 m2 e2) rows2 last2 er2
  p1 : SlP .i64 w b1 q.1.one.length q.1.one k b sv rv
  p2 : SlP .u64 w b2 q.1.row.length q.1.row k b sv rv
  z : ¬ PlZ b sv rv k
  bel : Below w4.heap.size w4 w
section
variable {b : Nat} {sv rv : Value} {q : Pl.S × List Int} {m : Nat} {a1 a2 : Option Addr} {k : Nat} {b1 b2 : Option Addr} {h2 : Hd.H} {N2 : Int} {m1 m2 e1 e2 : Nat} {rows2 last2 er2 : Int} {w4 w w' : World}
theorem StQ.later (Q : StQ b sv rv q m a1 a2 k b1 b2 h2 N2 m1 m2 e1 e2 rows2 last2 er2 w4 w) (hb : Below w.heap.size w w') : StQ b sv rv q m a1 a2 k b1 b2 h2 N2 m1 m2 e1 e2 rows2 last2 er2 w4 w' :=
  ⟨Q.x.later hb, Q.s1.below hb, Q.s2.below hb, Q.kc.later hb, Q.p1.later hb, Q.p2.later hb, Q.z, Q.bel.trans (hb.mono Q.bel.size)⟩
theorem StQ.drew (Q : StQ b sv rv q m a1 a2 k b1 b2 h2 N2 m1 m2 e1 e2 rows2 last2 er2 w4 w) : StQ b sv rv q m a1 a2 k b1 b2 h2 N2 m1 m2 e1 e2 rows2 last2 er2 w4 w.drew :=
  Q.later ⟨rfl, rfl, rfl, Nat.le_refl _, fun _ _ => rfl⟩
theorem StQ.same (Q : StQ b sv rv q m a1 a2 k b1 b2 h2 N2 m1 m2 e1 e2 rows2 last2 er2 w4 w) (hm : m ≤ 9223372036854775807) (c1 c2 : Nat) :
    Calls Try.prog 40 #[.slice a1 m c1, .slice a2 m c2] w fun e w' => e = .returned (.bool true) ∧ StQ b sv rv q m a1 a2 k b1 b2 h2 N2 m1 m2 e1 e2 rows2 last2 er2 w4 w' :=
  (same_yes a1 a2 m c1 c2 q.2 w hm Q.s1 Q.s2).mono fun e w' h => ⟨h.1, Q.later h.2⟩
theorem StQ.rows (Q : StQ b sv rv q m a1 a2 k b1 b2 h2 N2 m1 m2 e1 e2 rows2 last2 er2 w4 w) (hr : q.1.rows = rows2) :
    Calls Try.prog 46 #[.pointer (some ⟨b, 0, none⟩)] w fun e w' => e = .returned (.int .i64 rows2) ∧ w = w' := by
  have h := plRows_x Q.x; rw [hr] at h; exact h
theorem StQ.err (Q : StQ b sv rv q m a1 a2 k b1 b2 h2 N2 m1 m2 e1 e2 rows2 last2 er2 w4 w) (hr : q.1.e = er2) :
    Calls Try.prog 47 #[.pointer (some ⟨b, 0, none⟩)] w fun e w' => e = .returned (.int .i64 er2) ∧ w = w' := by
  have h := plError_x Q.x; rw [hr] at h; exact h
end
end Go.Proofs.Ytldhhhmihfcalaa

/- A reader of a head is told a byte of a number, over any memory. Condition: its limits are such as may be. -/
import Derived.Test.YtooilemglmndeaaGreatZHedB
import Derived.Test.YtooilemglmndeaaGreatZQPixC
import Derived.Test.YtooilemglmndeaaGreatZgAB
namespace Go.Proofs.YtooilemglmndeaaGreat
open Go.RowKit
set_option linter.unusedVariables false

theorem Tk.val_over {m : Int} {t : Tk.S} (h : Tk.Good m t) (hk : t.k = 4) : Tk.val t = (t.n, 0) := by unfold Tk.val; rw [if_pos (h.2.2.2.2.1 hk)]
theorem Tk.val_wrong {m : Int} {t : Tk.S} (h : Tk.Good m t) (hk : t.k = 5) : Tk.val t = (0, t.e) := by
  have := h.2.2.2.2.2.1 hk
  unfold Tk.val; rw [if_neg (by omega)]
theorem Tk.st_over {t : Tk.S} (hk : t.k = 4) : Tk.st t = 1 := by unfold Tk.st; rw [if_pos hk]
theorem Tk.st_wrong {t : Tk.S} (hk : t.k = 5) : Tk.st t = 2 := by unfold Tk.st; rw [if_neg (by omega), if_pos hk]
theorem Tk.st_more {t : Tk.S} (hk : t.k ≤ 3) : Tk.st t = 0 := by unfold Tk.st; rw [if_neg (by omega), if_neg (by omega)]
theorem some_ne {a b : Nat} (h : a ≠ b) : some a ≠ some b := by intro e; injection e with e; exact h e
/-- told a byte with which its number goes on -/
def TokC (l : Hd.L) (s : Hd.S) (n : Nat) (c : Int) (t : Tk.S) (q : Int) : Prop :=
  ∀ W, RdS W n (l.at s.i) s.t → Calls Tryz.prog 219 #[.pointer (some ⟨n, 0, none⟩), .int .u8 c] W fun e w' => e = .returned (.int .i64 q) ∧ RdS w' n (l.at s.i) t ∧ W.grownBy w' (some n)
theorem tokC {l : Hd.L} {s : Hd.S} {n : Nat} {c : Int} {t : Tk.S} {q : Int} (hG : Tk.Good (l.at s.i) s.t) (hl : l.Ok) (c0 : 0 ≤ c) (c1 : c ≤ 255) (ht : Tk.put (l.at s.i) s.t c = t) (hq : Tk.st t = q) : TokC l s n c t q := by
  intro W hr
  have h := (put_both hG (by have := Hd.L.at_ok hl s.i; omega) c c0 c1).1 W n hr
  rw [ht] at h
  refine h.mono ?_
  rintro e w' ⟨h1, h2, h3⟩
  exact ⟨by rw [h1, hq], h2, h3⟩
set_option maxHeartbeats 2000000 in
theorem in_more {l : Hd.L} (hl : l.Ok) {s : Hd.S} (hG : Hd.Good l s) (hp : s.p = 3) (c : Int) (c0 : 0 ≤ c) (c1 : c ≤ 255) (t : Tk.S) (ht : Tk.put (l.at s.i) s.t c = t) (hk : t.k ≤ 3) (w : World) (b n : Nat) (h : HdX 0 w b n l s) :
    Calls Tryz.prog 211 #[.pointer (some ⟨b, 0, none⟩), .int .u8 c] w (InR w b n l (s.tok t)) := by
  have hG' := Hd.good_take hl (hG.2.2.2.2.1 (by omega) (by omega)) (hG.2.2.2.2.2.1 (by omega)) (Tk.good_put (hG.2.1 (by omega)).1 c)
  rw [ht, show Hd.take s t = s.tok t by unfold Hd.take; rw [if_neg (by omega), if_neg (by omega)]] at hG'
  obtain ⟨_, nv, f, x, h1, h2, h3, h4⟩ := h
  obtain ⟨rfl, hr, hne⟩ := h2 hp
  have hx := h3 (by omega)
  rw [hp] at hx
  have hc8 := h1.c8
  have HC := Lib.hid (tokC (n := n) (hG.2.1 (by omega)).1 hl c0 c1 ht (Tk.st_more hk))
  have H1 := Lib.hid h1
  have HR := Lib.hid hr
  have HG' := Lib.hid hG'
  have HX := Lib.hid hx
  clear h1 hr h2 h3 h4 hG hl ht hk hG' hx
  go_enter Tryz.func211, Tryz.ntmps211
  go_wp2_with (go_at_call 219; refine (HC.out _ HR.out).mono ?_; rintro e w1 ⟨rfl, hr, hg⟩; have HR1 := Lib.hid hr; have HG1 := Lib.hid hg; clear hr hg)
  go_ret
  exact ⟨n, rfl, ⟨HG'.out, _, f, x, H1.out.kept HG1.out (some_ne (Ne.symm hne)), fun _ => ⟨rfl, HR1.out, hne⟩, fun _ => HX.out, fun h => absurd h (by show ¬ (3 : Nat) = 5; decide)⟩, .grown HG1.out (.inr rfl), .inl rfl⟩
set_option maxHeartbeats 2000000 in
theorem in_wrong {l : Hd.L} (hl : l.Ok) {s : Hd.S} (hG : Hd.Good l s) (hp : s.p = 3) (c : Int) (c0 : 0 ≤ c) (c1 : c ≤ 255) (t : Tk.S) (ht : Tk.put (l.at s.i) s.t c = t) (hk : t.k = 5) (w : World) (b n : Nat) (h : HdX 0 w b n l s) :
    Calls Tryz.prog 211 #[.pointer (some ⟨b, 0, none⟩), .int .u8 c] w (InR w b n l (s.wrong t.e)) := by
  have hT := Tk.good_put (hG.2.1 (by omega)).1 c
  rw [ht] at hT
  have hG' : Hd.Good l (s.wrong t.e) := Hd.good_wrong (by have := hG.2.2.2.2.2.2.2; omega) (.inr (hT.2.2.2.2.2.1 hk))
  have hv := Tk.val_wrong hT hk
  have hz : (t.e != 0) = true := by have := hT.2.2.2.2.2.1 hk; simp; omega
  obtain ⟨_, nv, f, x, h1, h2, h3, h4⟩ := h
  obtain ⟨rfl, hr, hne⟩ := h2 hp
  have hc8 := h1.c8
  have HC := Lib.hid (tokC (n := n) (hG.2.1 (by omega)).1 hl c0 c1 ht (Tk.st_wrong hk))
  have HV : Hid (∀ W, RdS W n (l.at s.i) t → Calls Tryz.prog 220 #[.pointer (some ⟨n, 0, none⟩)] W fun e w' => e = .returned (.tuple #[.int .i64 0, .int .i64 t.e]) ∧ W.grownBy w' none) := fun W hr => (value_s hr).mono fun e w' hh => ⟨by rw [hh.1, hv], hh.2⟩
  have HW := Lib.hid hwrong_any
  have H1 := Lib.hid h1
  have HR := Lib.hid hr
  have HG' := Lib.hid hG'
  clear h1 hr h2 h3 h4 hG hl ht hk hG' hT hv
  obtain ⟨e, he⟩ : ∃ e, t.e = e := ⟨_, rfl⟩
  rw [he] at HV HG' hz ⊢
  go_enter Tryz.func211, Tryz.ntmps211
  go_wp2_with fail
  refine (HC.out _ HR.out).mono ?_
  rintro e1 w1 ⟨rfl, hr, hg⟩
  have HR1 := Lib.hid hr
  have HG1 := Lib.hid hg
  have h2 := H1.out.kept hg (some_ne (Ne.symm hne))
  have hd8 := h2.c8
  have H2 := Lib.hid h2
  clear hr hg h2
  go_wp2_with fail
  refine (HV.out _ HR1.out).mono ?_
  rintro e1 w2 ⟨rfl, hg⟩
  have HG2 := Lib.hid hg
  have H3 := Lib.hid (H2.out.kept hg (by simp))
  clear hg
  go_wp2_with fail
  refine (HW.out _ _ _ _ _ _ _ _ _ _ _ _ _ _ H3.out _).mono ?_
  rintro e1 w3 ⟨rfl, h3, hg⟩
  have HG3 := Lib.hid hg
  have H4 := Lib.hid h3
  clear h3 hg
  go_wp2
  go_ret
  exact ⟨n, rfl, ⟨HG'.out, _, e, x, H4.out, fun h => absurd h (by show ¬ (5 : Nat) = 3; decide), fun h => absurd h (by show ¬ (5 : Nat) ≤ 3; decide), fun _ => rfl⟩, ((Sep.grown HG1.out (.inr rfl)).trans (.grownN HG2.out)).trans (.grown HG3.out (.inl rfl)), .inl rfl⟩
set_option maxHeartbeats 2000000 in
theorem in_zero {l : Hd.L} (hl : l.Ok) {s : Hd.S} (hG : Hd.Good l s) (hp : s.p = 3) (c : Int) (c0 : 0 ≤ c) (c1 : c ≤ 255) (t : Tk.S) (ht : Tk.put (l.at s.i) s.t c = t) (hk : t.k = 4) (hn : t.n = 0) (w : World) (b n : Nat) (h : HdX 0 w b n l s) :
    Calls Tryz.prog 211 #[.pointer (some ⟨b, 0, none⟩), .int .u8 c] w (InR w b n l (s.wrong 4)) := by
  have hT := Tk.good_put (hG.2.1 (by omega)).1 c
  rw [ht] at hT
  have hG' : Hd.Good l (s.wrong 4) := Hd.good_wrong (by have := hG.2.2.2.2.2.2.2; omega) (.inr (.inr rfl))
  have hv := Tk.val_over hT hk
  rw [hn] at hv
  obtain ⟨_, nv, f, x, h1, h2, h3, h4⟩ := h
  obtain ⟨rfl, hr, hne⟩ := h2 hp
  have hc8 := h1.c8
  have HC := Lib.hid (tokC (n := n) (hG.2.1 (by omega)).1 hl c0 c1 ht (Tk.st_over hk))
  have HV : Hid (∀ W, RdS W n (l.at s.i) t → Calls Tryz.prog 220 #[.pointer (some ⟨n, 0, none⟩)] W fun e w' => e = .returned (.tuple #[.int .i64 0, .int .i64 0]) ∧ W.grownBy w' none) := fun W hr => (value_s hr).mono fun e w' hh => ⟨by rw [hh.1, hv], hh.2⟩
  have HW := Lib.hid hwrong_any
  have H1 := Lib.hid h1
  have HR := Lib.hid hr
  have HG' := Lib.hid hG'
  clear h1 hr h2 h3 h4 hG hl ht hk hG' hT hv hn
  go_enter Tryz.func211, Tryz.ntmps211
  go_wp2_with fail
  refine (HC.out _ HR.out).mono ?_
  rintro e1 w1 ⟨rfl, hr, hg⟩
  have HR1 := Lib.hid hr
  have HG1 := Lib.hid hg
  have h2 := H1.out.kept hg (some_ne (Ne.symm hne))
  have hd8 := h2.c8
  have H2 := Lib.hid h2
  clear hr hg h2
  go_wp2_with fail
  refine (HV.out _ HR1.out).mono ?_
  rintro e1 w2 ⟨rfl, hg⟩
  have HG2 := Lib.hid hg
  have H3 := Lib.hid (H2.out.kept hg (by simp))
  clear hg
  go_wp2_with fail
  refine (HW.out _ _ _ _ _ _ _ _ _ _ _ _ _ _ H3.out _).mono ?_
  rintro e1 w3 ⟨rfl, h3, hg⟩
  have HG3 := Lib.hid hg
  have H4 := Lib.hid h3
  clear h3 hg
  go_wp2
  go_ret
  exact ⟨n, rfl, ⟨HG'.out, _, 4, x, H4.out, fun h => absurd h (by show ¬ (5 : Nat) = 3; decide), fun h => absurd h (by show ¬ (5 : Nat) ≤ 3; decide), fun _ => rfl⟩, ((Sep.grown HG1.out (.inr rfl)).trans (.grownN HG2.out)).trans (.grown HG3.out (.inl rfl)), .inl rfl⟩
set_option maxHeartbeats 1000000 in
theorem tells_any (k : Int) (w : World) :
    Calls Tryz.prog 122 #[.int .i64 k] w fun e w' => e = .returned (.bool (!Hd.bits k)) ∧ w = w' := by
  by_cases h1 : k = 1
  · subst h1
    have X := Lib.hid (show (!Hd.bits 1) = false by decide)
    go_enter Tryz.func122, Tryz.ntmps122
    go_wp2
    go_ret
    exact ⟨ret_b X.out.symm, rfl⟩
  by_cases h4 : k = 4
  · subst h4
    have X := Lib.hid (show (!Hd.bits 4) = false by decide)
    go_enter Tryz.func122, Tryz.ntmps122
    go_wp2
    go_ret
    exact ⟨ret_b X.out.symm, rfl⟩
  · have X := Lib.hid (show (!Hd.bits k) = true by unfold Hd.bits; rw [decide_eq_false (by omega)]; rfl)
    have k1 : (k != 1) = true := by simpa using h1
    have k4 : (k != 4) = true := by simpa using h4
    go_enter Tryz.func122, Tryz.ntmps122
    go_wp2
    go_ret
    exact ⟨ret_b X.out.symm, rfl⟩
set_option maxHeartbeats 1000000 in
theorem numbers_any (k : Int) (w : World) :
    Calls Tryz.prog 221 #[.int .i64 k] w fun e w' => e = .returned (.int .i64 (Hd.many k : Nat)) ∧ w = w' := by
  have HT := Lib.hid (tells_any k)
  cases hb : Hd.bits k with
  | true =>
    have X := Lib.hid (show Hd.many k = 2 by unfold Hd.many; rw [if_pos hb])
    rw [hb] at HT
    go_enter Tryz.func221, Tryz.ntmps221
    go_wp2_with (go_at_call 122; refine (HT.out _).mono ?_; rintro e w1 ⟨rfl, rfl⟩)
    go_ret
    exact ⟨by rw [X.out]; rfl, rfl⟩
  | false =>
    have X := Lib.hid (show Hd.many k = 3 by unfold Hd.many; rw [if_neg (by rw [hb]; simp)])
    rw [hb] at HT
    go_enter Tryz.func221, Tryz.ntmps221
    go_wp2_with (go_at_call 122; refine (HT.out _).mono ?_; rintro e w1 ⟨rfl, rfl⟩)
    go_ret
    exact ⟨by rw [X.out]; rfl, rfl⟩
end Go.Proofs.YtooilemglmndeaaGreat

/- When two lists of numbers are the same, by the document's own answer, over any memory; and its example. Condition: a length fits an int. -/
namespace Go.Proofs.YtooilemglmndeaaGreat
open Go.RowKit
set_option linter.unusedVariables false
namespace Pq
/-- two lists are the same up to k -/
def Alike (x y : List Int) (k : Nat) : Prop := ∀ i, i < k → x.getD i 0 = y.getD i 0
theorem alike_all {x y : List Int} {n : Nat} (hx : x.length = n) (hy : y.length = n) (h : Alike x y n) : x = y := by
  refine List.ext_getElem (by rw [hx, hy]) fun i h1 h2 => ?_
  have := h i (by omega)
  rw [List.getD_eq_getElem?_getD, List.getD_eq_getElem?_getD, List.getElem?_eq_getElem h1, List.getElem?_eq_getElem h2] at this
  simpa using this
theorem alike_succ {x y : List Int} {k : Nat} (h : Alike x y k) (e : x.getD k 0 = y.getD k 0) : Alike x y (k + 1) := fun i hi => by
  rcases Nat.lt_or_ge i k with h1 | h1
  · exact h i h1
  · obtain rfl : i = k := by omega
    exact e

set_option maxHeartbeats 1000000 in
theorem same_any (a b : Option Addr) (n m ca cb : Nat) (x y : List Int) (w : World) (hn : n ≤ 9223372036854775807) (ha : Sl w a n x) (hb : Sl w b m y) :
    Calls Tryz.prog 31 #[.slice a n ca, .slice b m cb] w fun e w' => e = .returned (.bool (decide (x = y))) ∧ Below w.heap.size w w' := by
  by_cases h : n = m
  · subst h
    obtain ⟨lx, ha⟩ := ha
    obtain ⟨ly, hb⟩ := hb
    have LX := Lib.hid lx; clear lx
    have LY := Lib.hid ly; clear ly
    by_cases h0 : n = 0
    · subst h0
      have X := Lib.hid (show decide (x = y) = true by rw [decide_eq_true_iff, List.eq_nil_of_length_eq_zero LX.out, List.eq_nil_of_length_eq_zero LY.out])
      clear ha hb
      go_enter Tryz.func31, Tryz.ntmps31
      go_wp2
      go_rounds 1
      go_ret
      exact ⟨ret_b X.out.symm, Below.refl _ _⟩
    · rcases ha with ha | ⟨ba, oa, rfl, ha⟩
      · omega
      rcases hb with hb | ⟨bb, ob, rfl, hb⟩
      · omega
      have HA := Lib.hid ha; clear ha
      have HB := Lib.hid hb; clear hb
      go_enter Tryz.func31, Tryz.ntmps31
      go_wp2
      go_loopw [5] (fun i wr => ∃ k q : Nat, k ≤ n ∧ i = .int .i64 k ∧ Alike x y k ∧ wr = w.drewN q) (fun i _ => n - (intOf i).toNat)
      case atStart => exact ⟨0, 0, Nat.zero_le _, rfl, (fun i hi => by omega), rfl⟩
      case round =>
        obtain ⟨k, q, hk, rfl, hal, rfl⟩ := hrel
        by_cases hlt : k < n
        · have hx := HA.out k hlt
          have hy := HB.out k hlt
          obtain ⟨u, hu⟩ : ∃ u, x.getD k 0 = u := ⟨_, rfl⟩
          obtain ⟨v, hv⟩ : ∃ v, y.getD k 0 = v := ⟨_, rfl⟩
          rw [hu] at hx; rw [hv] at hy
          have HU := Lib.hid hu; clear hu
          have HV := Lib.hid hv; clear hv
          have i0 : (0 : Int) ≤ (k : Int) := Int.natCast_nonneg _
          have i1 : (k : Int) < (n : Int) := by omega
          by_cases huv : u = v
          · subst huv
            go_wp2_with (go_quiet (fail))
            go_roundw
            case rel => exact ⟨k + 1, _, by omega, by go_num, alike_succ hal (by rw [HU.out, HV.out]), rfl⟩
            case measure => simp [intOf]; omega
          · have kk : (u != v) = true := by rw [bne_iff_ne]; exact huv
            have X := Lib.hid (show decide (x = y) = false by rw [decide_eq_false_iff_not]; intro e; apply huv; rw [← HU.out, ← HV.out, e])
            go_wp2_with (go_quiet (fail))
            go_ret
            exact ⟨ret_b X.out.symm, below_drewN (below_drewN (Below.refl _ _) _) _⟩
        · obtain rfl : k = n := by omega
          have X := Lib.hid (show decide (x = y) = true by rw [decide_eq_true_iff]; exact alike_all LX.out LY.out hal)
          go_wp2
          go_ret
          exact ⟨ret_b X.out.symm, below_drewN (Below.refl _ _) _⟩
  · have X := Lib.hid (show decide (x = y) = false by rw [decide_eq_false_iff_not]; intro e; apply h; rw [← ha.1, ← hb.1, e])
    have k : ((n : Int) != m) = true := by simp; omega
    go_enter Tryz.func31, Tryz.ntmps31
    go_wp2
    go_ret
    exact ⟨ret_b X.out.symm, Below.refl _ _⟩
end Pq
end Go.Proofs.YtooilemglmndeaaGreat

/- What a law's walk is told of a slice of integers that came in, and what follows of it. No condition. -/
namespace Go.Proofs.YtooilemglmndeaaGreat
open Go.RowKit
set_option linter.unusedVariables false
namespace Pq
/-- It is nil; or it leads to a row of 'cap' cells, the numbers 'zs' (the first 'len' are its elements), each fitting its kind. -/
def IsRow (k : IntKind) (w : World) (a : Option Addr) (len cap : Nat) (zs : List Int) : Prop :=
  (a = none ∧ len = 0 ∧ cap = 0 ∧ zs = []) ∨
  ∃ x, a = some x ∧ len ≤ cap ∧ cap ≤ maxLen ∧ zs.length = cap ∧ (∀ i, i < zs.length → w.cell? (x.add i) = some (.int k (zs.getD i 0))) ∧ ∀ n ∈ zs, (Lit.int k n).wf = true
theorem isrow_len {k : IntKind} {w : World} {a : Option Addr} {len cap : Nat} {zs : List Int} (h : IsRow k w a len cap zs) : len ≤ 9223372036854775807 ∧ len ≤ zs.length ∧ len ≤ cap ∧ cap ≤ 9223372036854775807 := by
  rcases h with ⟨_, rfl, rfl, rfl⟩ | ⟨x, _, h1, h2, h3, _⟩
  · simp
  · unfold maxLen at h2; omega
end Pq
end Go.Proofs.YtooilemglmndeaaGreat

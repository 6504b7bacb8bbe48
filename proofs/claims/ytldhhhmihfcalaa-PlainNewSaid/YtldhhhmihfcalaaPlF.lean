/- A reader of digits is told a byte, and the end: what it comes to, over any memory. Condition: its head may be. -/
import Derived.Test.YtldhhhmihfcalaaPlE
namespace Go.Proofs.Ytldhhhmihfcalaa
open Go.RowKit
set_option linter.unusedVariables false

theorem Pl.sample_h (s : Pl.S) (k : Int) : (Pl.sample s k).1.h = s.h := by
  unfold Pl.sample
  split
  · rfl
  · split <;> rfl
theorem Pl.sample_d (s : Pl.S) (k : Int) : (Pl.sample s k).1.d = false := by
  unfold Pl.sample
  split
  · rfl
  · split <;> rfl
theorem Pl.sample_e (s : Pl.S) (k : Int) : (Pl.sample s k).1.e = 0 := by
  unfold Pl.sample
  split
  · rfl
  · split <;> rfl
def stOf (s : Pl.S) : Value := if s.h.kd = 1 then stB else if s.d = true then stD else stA
/-- a reader in the block b is where s says -/
structure PlX (w : World) (b : Nat) (sv rv : Value) (s : Pl.S) : Prop where
  g : Pl.Good s
  z : ∀ k, PlZ b sv rv k → b ≤ k ∧ k < w.heap.size
  ex : ∃ n x, PlC w b s.h n sv rv s.rows s.last s.e x ∧ (s.last = 0 → n = s.n ∧ x = stOf s ∧ w.ownsRow (b + 1) 3 1 sv s.one.length (ints s.one) ∧ w.ownsRow (b + 1) 88 1 rv s.row.length (pixs s.row))
/-- what a reader hands back of a byte, and what its blocks hold then -/
def PlPutR (w : World) (b : Nat) (sv rv : Value) (q : Pl.S × List Int) (e : Ending) (w' : World) : Prop :=
  ∃ a c sv' rv', e = .returned (.tuple #[.slice a q.2.length c, .int .i64 q.1.last]) ∧ PlX w' b sv' rv' q.1 ∧ SlK .u64 w' a q.2.length q.2 ∧ (∀ y, a = some y → y.block ≠ b) ∧ Sep (PlZ b sv rv) w w' ∧ PlNew w sv sv' ∧ PlNew w rv rv'
theorem slk_nil {w : World} : SlK .u64 w none ([] : List Int).length [] := ⟨rfl, .inl rfl⟩
theorem slk_kept {q : IntKind} {w w' : World} {a : Option Addr} {n b : Nat} {l : List Int} (h : SlK q w a n l) (ha : ∀ y, a = some y → y.block ≠ b) (hg : w.grownBy w' (some b)) : SlK q w' a n l := by
  obtain ⟨h1, h2⟩ := h
  refine ⟨h1, ?_⟩
  rcases h2 with h2 | ⟨g, o, rfl, hc⟩
  · exact .inl h2
  · refine .inr ⟨g, o, rfl, fun i hi => ?_⟩
    have hne := ha _ rfl
    exact hg.cell (hc i hi) (by intro e; injection e with e; exact hne e)
theorem PlX.own0 {w : World} {b : Nat} {sv rv : Value} {s : Pl.S} (X : PlX w b sv rv s) (h0 : s.last = 0) : PlT w b s.h sv rv s.n sv rv s.one s.row s.rows 0 (stOf s) w := by
  obtain ⟨n, x, hC, hx⟩ := X.ex
  obtain ⟨rfl, rfl, h1, h2⟩ := hx h0
  have e0 := X.g.e0 (by omega)
  rw [h0, e0] at hC
  exact .start hC h1 h2
theorem PlT.z {W w : World} {b : Nat} {h : Hd.H} {sv0 rv0 : Value} {n : Int} {sv rv : Value} {one row : List Int} {rows t : Int} {x : Value} (T : PlT W b h sv0 rv0 n sv rv one row rows t x w) {w' : World} (hs : w.heap.size ≤ w'.heap.size) : ∀ k, PlZ b sv rv k → b ≤ k ∧ k < w'.heap.size := by
  intro k hk
  have hb := T.c.lt
  rcases hk with rfl | hk | hk
  · exact ⟨Nat.le_refl _, Nat.lt_of_lt_of_le hb hs⟩
  · have := T.s.lt k hk; omega
  · have := T.r.lt k hk; omega
theorem z_up {w w' : World} {b : Nat} {sv rv : Value} (h : ∀ k, PlZ b sv rv k → b ≤ k ∧ k < w.heap.size) (hs : w.heap.size ≤ w'.heap.size) : ∀ k, PlZ b sv rv k → b ≤ k ∧ k < w'.heap.size := fun k hk => ⟨(h k hk).1, Nat.lt_of_lt_of_le (h k hk).2 hs⟩
theorem put_open {w : World} {b : Nat} {sv rv : Value} {s t : Pl.S} (hG : Pl.Good t) (ht : t.last = 0) (T : PlT w b s.h sv rv s.n sv rv s.one s.row s.rows 0 (stOf s) w) (hs : t.h = s.h ∧ t.one = s.one ∧ t.row = s.row ∧ t.rows = s.rows)
    {e : Ending} {w' : World} (he : e = .returned (.tuple #[.slice none 0 0, .int .i64 0])) (hC : PlC w' b s.h t.n sv rv s.rows 0 0 (stOf t)) (hg : w.grownBy w' (some b)) : PlPutR w b sv rv (t, []) e w' := by
  obtain ⟨a1, a2, a3, a4⟩ := hs
  have e0 := hG.e0 (by omega)
  refine ⟨none, 0, sv, rv, by rw [he]; show _ = Ending.returned (.tuple #[.slice none 0 0, .int .i64 t.last]); rw [ht], ⟨hG, T.z hg.size, t.n, stOf t, by rw [a1, a4, ht, e0]; exact hC, fun _ => ⟨rfl, rfl, ?_, ?_⟩⟩, slk_nil, (fun y hy => by cases hy), .grown hg (.inl rfl), .inl rfl, .inl rfl⟩
  · rw [a2]; exact T.s.kept hg (.inr fun e => T.nes e.symm)
  · rw [a3]; exact T.r.kept hg (.inr fun e => T.ner e.symm)
theorem put_wrong {w : World} {b : Nat} {sv rv : Value} {s : Pl.S} (hG : Pl.Good s) (T : PlT w b s.h sv rv s.n sv rv s.one s.row s.rows 0 (stOf s) w) {er : Int} (her : er = 3 ∨ er = 5 ∨ er = 6)
    {e : Ending} {w' : World} {k : Int} {x : Value} (he : e = .returned (.tuple #[.slice none 0 0, .int .i64 2])) (hC : PlC w' b s.h k sv rv s.rows 2 er x) (hg : w.grownBy w' (some b)) : PlPutR w b sv rv (Pl.wrong s er, []) e w' :=
  ⟨none, 0, sv, rv, he, ⟨Pl.good_wrong hG her, T.z hg.size, k, x, hC, fun h => absurd h (show ¬ (2 : Int) = 0 by decide)⟩, slk_nil, (fun y hy => by cases hy), .grown hg (.inl rfl), .inl rfl, .inl rfl⟩
theorem put_sample {w : World} {b : Nat} {sv rv : Value} {s : Pl.S} (hG : Pl.Good s) (h0 : s.last = 0) (T : PlT w b s.h sv rv s.n sv rv s.one s.row s.rows 0 (stOf s) w) (c k : Int) (k0 : 0 ≤ k) (k1 : k ≤ s.h.m) (fn : Nat)
    (hn : ∀ args w, (callFunc fn args).run Try.prog w = .ok (.enter fn args) w) (hfn : stOf s = .func (.func fn) #[] #[]) (x : Value) (hx : x = if s.h.kd = 1 then stB else stA)
    (hcall : Calls Try.prog fn #[.pointer (some ⟨b, 0, none⟩), .int .u8 c] w (StR w b s.h k sv rv s.rows x true 0)) :
    Calls Try.prog 45 #[.pointer (some ⟨b, 0, none⟩), .int .u8 c] w (PlPutR w b sv rv (Pl.sample s k)) := by
  have H := T.c
  rw [hfn] at H
  refine (plPut_take c w b s.h s.n sv rv s.rows fn hn H k x 0 (Pl.sample s k).1.rows (Pl.sample s k).1.last (Pl.sample s k).2 (fun W1 W2 a sv' rv' => PlT W1 b s.h sv rv 0 sv' rv' (Pl.sample s k).1.one (Pl.sample s k).1.row (Pl.sample s k).1.rows (Pl.sample s k).1.last x W2 ∧ SlK .u64 W2 a (Pl.sample s k).2.length (Pl.sample s k).2 ∧ ∀ y, a = some y → y.block ≠ b) hcall ?_).mono ?_
  · intro W hC hg
    refine (plTake_any hG h0 k (.start hC (T.s.kept hg (.inr fun e => T.nes e.symm)) (T.r.kept hg (.inr fun e => T.ner e.symm)))).mono ?_
    rintro e w' ⟨a, c', sv', rv', he, hT, hS⟩
    exact ⟨a, c', sv', rv', he, hT.c, hT, hS⟩
  · rintro e w' ⟨a, c', sv', rv', W1, W2, j, he, hg1, ⟨hT, hS, hA⟩, rfl⟩
    have hGq := Pl.good_sample hG h0 k k0 k1
    have hh := Pl.sample_h s k
    have hd := Pl.sample_d s k
    have hz : (Pl.sample s k).1.n = 0 := hGq.nd hd
    have he2 := Pl.sample_e s k
    have hst : stOf (Pl.sample s k).1 = x := by unfold stOf; rw [hh, hd, hx]; rfl
    refine ⟨a, c', sv', rv', he, ⟨hGq, hT.z (Nat.le_refl _), 0, x, ?_, fun _ => ⟨hz.symm, hst.symm, hT.s, hT.r⟩⟩, hS, hA, ((Sep.grown hg1 (.inl rfl)).trans hT.f).trans (.drewN _ _ _), ?_, ?_⟩
    · rw [hh, he2]; exact hT.c
    · rcases hT.ns with h | h
      · exact .inl h
      · exact .inr fun i hi => Nat.le_trans hg1.size (h i hi)
    · rcases hT.nr with h | h
      · exact .inl h
      · exact .inr fun i hi => Nat.le_trans hg1.size (h i hi)
theorem plPut_any {s : Pl.S} (c : Int) (c0 : 0 ≤ c) (c1 : c ≤ 255) (w : World) (b : Nat) (sv rv : Value) (X : PlX w b sv rv s) :
    Calls Try.prog 45 #[.pointer (some ⟨b, 0, none⟩), .int .u8 c] w (PlPutR w b sv rv (Pl.put s c)) := by
  have hG := X.g
  have hm := hG.may.m
  by_cases h0 : s.last = 0
  · have T := X.own0 h0
    have H := T.c
    unfold Pl.put
    rw [if_neg (by omega)]
    cases hb : Tk.blank c with
    | true =>
      rw [if_pos rfl]
      by_cases hd : s.d = true
      · rw [if_pos hd]
        have hk : s.h.kd ≠ 1 := fun e => by rw [hG.kd e] at hd; cases hd
        have hst : stOf s = stD := by unfold stOf; rw [if_neg hk, if_pos hd]
        rw [hst] at H
        exact put_sample hG h0 T c s.n hG.n0 hG.n1 _ enPD hst stA (by rw [if_neg hk]) (plBehind_blank w b s.h s.n sv rv s.rows c c0 c1 hb H)
      · rw [if_neg hd]
        by_cases hk : s.h.kd = 1
        · have hst : stOf s = stB := by unfold stOf; rw [if_pos hk]
          rw [hst] at H
          refine (plPut_open c w b s.h s.n sv rv s.rows _ enPB H s.n stB (plBit_blank w b s.h s.n sv rv s.rows c c0 c1 hb H)).mono ?_
          rintro e w' ⟨he, hC, hg⟩
          exact put_open hG h0 T ⟨rfl, rfl, rfl, rfl⟩ he (by rw [hst]; exact hC) hg
        · have hst : stOf s = stA := by unfold stOf; rw [if_neg hk, if_neg hd]
          rw [hst] at H
          refine (plPut_open c w b s.h s.n sv rv s.rows _ enPA H s.n stA (plAhead_blank w b s.h s.n sv rv s.rows c c0 c1 hb H)).mono ?_
          rintro e w' ⟨he, hC, hg⟩
          exact put_open hG h0 T ⟨rfl, rfl, rfl, rfl⟩ he (by rw [hst]; exact hC) hg
    | false =>
      rw [if_neg (by decide)]
      by_cases hk : s.h.kd = 1
      · rw [if_pos hk]
        have hst : stOf s = stB := by unfold stOf; rw [if_pos hk]
        rw [hst] at H
        by_cases hc : c = 48 ∨ c = 49
        · rw [if_pos hc]
          exact put_sample hG h0 T c (c - 48) (by omega) (by omega) _ enPB hst stB (by rw [if_pos hk]) (plBit_yes w b s.h s.n sv rv s.rows c hc H)
        · rw [if_neg hc]
          refine (plPut_err c w b s.h s.n sv rv s.rows _ enPB H s.n stB false 3 (by decide) (plBit_no w b s.h s.n sv rv s.rows c c0 c1 hb (by omega) (by omega) H)).mono ?_
          rintro e w' ⟨he, hC, hg⟩
          exact put_wrong hG T (.inl rfl) he hC hg
      · rw [if_neg hk]
        obtain ⟨k, er, hs⟩ : ∃ k er, Nu.stepV s.n c s.h.m = (k, er) := ⟨_, _, rfl⟩
        have hse := Tk.stepV_e s.n c s.h.m
        have hsl := Nu.stepV_le s.n c s.h.m hG.n0 hG.n1
        rw [hs] at hse hsl ⊢
        simp only at hse hsl ⊢
        -- the step
        have hstep : ∀ (k' er' : Int), (∀ W, PlC W b s.h s.n sv rv s.rows 0 0 stD → Calls Try.prog 110 #[.pointer (some ⟨b, 0, none⟩), .int .u8 c] W fun e w' => e = .returned (.int .i64 er') ∧ PlC w' b s.h k' sv rv s.rows 0 0 stD ∧ W.grownBy w' (some b)) →
            ∃ fn, (∀ args w, (callFunc fn args).run Try.prog w = .ok (.enter fn args) w) ∧ stOf s = .func (.func fn) #[] #[] ∧ Calls Try.prog fn #[.pointer (some ⟨b, 0, none⟩), .int .u8 c] w (StR w b s.h k' sv rv s.rows stD false er') := by
          intro k' er' hd'
          by_cases hd : s.d = true
          · have hst : stOf s = stD := by unfold stOf; rw [if_neg hk, if_pos hd]
            rw [hst] at H ⊢
            exact ⟨_, enPD, rfl, plBehind_digit w b s.h s.n sv rv s.rows c c0 c1 hb H k' er' hd'⟩
          · have hst : stOf s = stA := by unfold stOf; rw [if_neg hk, if_neg hd]
            rw [hst] at H ⊢
            exact ⟨_, enPA, rfl, plAhead_digit w b s.h s.n sv rv s.rows c c0 c1 hb H k' er' hd'⟩
        by_cases he0 : er = 0
        · rw [if_pos he0]
          obtain ⟨fn, hn, hst, hcall⟩ := hstep k 0 (fun W hW => by
            have := plDigit_any W b s.h s.n sv rv s.rows 0 0 stD hW hG.n0 hG.n1 (by omega) c c0 c1 k er hs (by omega)
            rw [he0] at this; exact this)
          rw [hst] at H
          refine (plPut_open c w b s.h s.n sv rv s.rows fn hn H k stD hcall).mono ?_
          rintro e w' ⟨he, hC, hg⟩
          have hgl := hsl he0
          have hGd : Pl.Good (Pl.digit s k) := ⟨hG.may, hgl.1, hgl.2, (fun h => absurd h (show ¬ true = false by decide)), (fun h => absurd h hk), hG.one, hG.oneIn, hG.row, hG.rows0, (fun _ => hG.rows1 h0), hG.rows2, .inl rfl, fun _ => rfl, (fun h => absurd h (show ¬ (0 : Int) = 2 by decide))⟩
          exact put_open (s := s) (t := Pl.digit s k) hGd rfl T ⟨rfl, rfl, rfl, rfl⟩ he (by
            have : stOf (Pl.digit s k) = stD := by unfold stOf Pl.digit; rw [if_neg hk, if_pos rfl]
            rw [this]; exact hC) hg
        · rw [if_neg he0]
          by_cases he4 : er = 4
          · rw [if_pos he4]
            obtain ⟨fn, hn, hst, hcall⟩ := hstep s.n 5 (fun W hW => plDigit_range W b s.h s.n sv rv s.rows 0 0 stD hW hG.n0 hG.n1 (by omega) c c0 c1 k er hs he4)
            rw [hst] at H
            refine (plPut_err c w b s.h s.n sv rv s.rows fn hn H s.n stD false 5 (by decide) hcall).mono ?_
            rintro e w' ⟨he, hC, hg⟩
            exact put_wrong hG T (.inr (.inl rfl)) he hC hg
          · rw [if_neg he4]
            have he3 : er = 3 := by omega
            obtain ⟨fn, hn, hst, hcall⟩ := hstep k er (fun W hW => plDigit_any W b s.h s.n sv rv s.rows 0 0 stD hW hG.n0 hG.n1 (by omega) c c0 c1 k er hs he4)
            rw [hst] at H
            refine (plPut_err c w b s.h s.n sv rv s.rows fn hn H k stD false er (by omega) hcall).mono ?_
            rintro e w' ⟨he, hC, hg⟩
            exact put_wrong hG T (.inl he3) he hC hg
  · obtain ⟨n, x, hC, hx⟩ := X.ex
    unfold Pl.put
    rw [if_pos (by omega)]
    refine (plPut_done c w b s.h n sv rv s.rows s.last s.e x h0 hC).mono ?_
    rintro e w' ⟨he, j, rfl⟩
    exact ⟨none, 0, sv, rv, he, ⟨hG, X.z, n, x, hC, fun h => absurd h h0⟩, slk_nil, (fun y hy => by cases hy), .drewN _ _ _, .inl rfl, .inl rfl⟩
set_option maxHeartbeats 1000000 in
theorem plEnd_any {s : Pl.S} (w : World) (b : Nat) (sv rv : Value) (X : PlX w b sv rv s) :
    Calls Try.prog 49 #[.pointer (some ⟨b, 0, none⟩)] w (PlPutR w b sv rv (Pl.fin s)) := by
  have HP := Lib.hid (plPut_any 32 (by decide) (by decide) w b sv rv X)
  clear X
  by_cases h0 : (Pl.put s 32).1.last = 0
  · have hf : Pl.fin s = (Pl.wrong (Pl.put s 32).1 6, (Pl.put s 32).2) := by unfold Pl.fin; rw [if_pos h0]
    rw [hf]
    obtain ⟨q, hq⟩ : ∃ q, Pl.put s 32 = q := ⟨_, rfl⟩
    rw [hq] at HP h0 ⊢
    obtain ⟨ol, hol⟩ : ∃ ol, q.2.length = ol := ⟨_, rfl⟩
    have HOL := Lib.hid hol
    have H0 := Lib.hid h0
    clear hf hq hol h0
    go_enter Try.func49, Try.ntmps49
    go_wp2_with fail
    refine HP.out.mono ?_
    rintro e w2 ⟨a, c, sv', rv', rfl, X2, S2, A2, F2, N2, N3⟩
    obtain ⟨n, x, hC, hx⟩ := X2.ex
    rw [HOL.out, H0.out]
    have HX2 := Lib.hid X2
    have HS2 := Lib.hid S2
    have HA2 := Lib.hid A2
    have HF2 := Lib.hid F2
    have HN2 := Lib.hid N2
    have HN3 := Lib.hid N3
    have HC := Lib.hid hC
    clear X2 S2 A2 F2 N2 N3 hx hC
    go_wp2_with (first | (go_at_call 81; refine (plWrong_any w2 b _ _ _ _ _ _ _ _ HC.out 6).mono ?_; rintro e w3 ⟨rfl, h3, hg3⟩; have hd8 := h3.c8; have HH3 := Lib.hid h3; have HG3 := Lib.hid hg3; clear h3 hg3) | go_quiet (fail))
    go_ret2
    refine ⟨a, c, sv', rv', by rw [HOL.out]; rfl, ⟨Pl.good_wrong HX2.out.g (.inr (.inr rfl)), z_up HX2.out.z HG3.out.size, _, _, HH3.out.drewN _, fun h => absurd h (show ¬ (2 : Int) = 0 by decide)⟩, ?_, HA2.out, (HF2.out.trans (.grown HG3.out (.inl rfl))).trans (.drewN _ _ _), HN2.out, HN3.out⟩
    exact slk_kept (w := w2) HS2.out HA2.out (HG3.out.trans (grown_drew _ _ _))
  · have hf : Pl.fin s = Pl.put s 32 := by unfold Pl.fin; rw [if_neg h0]
    rw [hf]
    obtain ⟨q, hq⟩ : ∃ q, Pl.put s 32 = q := ⟨_, rfl⟩
    rw [hq] at HP h0 ⊢
    obtain ⟨t, ht⟩ : ∃ t, q.1.last = t := ⟨_, rfl⟩
    have h0' : (t == 0) = false := by rw [← ht]; simpa using h0
    obtain ⟨ol, hol⟩ : ∃ ol, q.2.length = ol := ⟨_, rfl⟩
    have HOL := Lib.hid hol
    have HT := Lib.hid ht
    clear hf hq hol h0 ht
    go_enter Try.func49, Try.ntmps49
    go_wp2_with fail
    refine HP.out.mono ?_
    rintro e w2 ⟨a, c, sv', rv', rfl, X2, S2, A2, F2, N2, N3⟩
    obtain ⟨n, x, hC, hx⟩ := X2.ex
    have hc8 := hC.c8
    rw [HOL.out, HT.out]
    rw [HT.out] at hc8
    have HX2 := Lib.hid X2
    have HS2 := Lib.hid S2
    have HA2 := Lib.hid A2
    have HF2 := Lib.hid F2
    have HN2 := Lib.hid N2
    have HN3 := Lib.hid N3
    clear X2 S2 A2 F2 N2 N3 hx hC
    go_wp2_with (go_quiet (fail))
    go_ret2
    refine ⟨a, c, sv', rv', by rw [HOL.out, HT.out]; rfl, ⟨HX2.out.g, HX2.out.z, HX2.out.ex⟩, HS2.out, HA2.out, HF2.out.trans (.drewN _ _ _), HN2.out, HN3.out⟩
end Go.Proofs.Ytldhhhmihfcalaa
